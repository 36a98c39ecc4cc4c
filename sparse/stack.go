package sparse

// Stack is a stack.
type Stack[T any] struct {
	items []T
	most  int
}

// Push puts a thing on top.
func (s *Stack[T]) Push(x T) {
	s.items = append(s.items, x)
	s.most = max(s.most, len(s.items))
}

// Pop takes the top one away; false: there is none.
func (s *Stack[T]) Pop() (T, bool) {
	var none T
	top := len(s.items) - 1
	if top < 0 {
		return none, false
	}
	x := s.items[top]
	// What was popped is the caller's alone: the stack must not hold on to its memory.
	s.items[top] = none
	s.items = s.items[:top]
	return x, true
}

// Len tells how many there are.
func (s *Stack[T]) Len() int { return len(s.items) }

// Most tells how many there were at most.
func (s *Stack[T]) Most() int { return s.most }

// Clear takes all away, and forgets how many there were.
func (s *Stack[T]) Clear() {
	clear(s.items)
	s.items = s.items[:0]
	s.most = 0
}
