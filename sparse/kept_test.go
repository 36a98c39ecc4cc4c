package sparse

import "testing"

// What was popped or cleared is not held by the stack any more, nor its memory.
func TestStackLetsGo(t *testing.T) {
	var s Stack[*int]
	for range 5 {
		s.Push(new(int))
	}
	s.Pop()
	s.Pop()
	if s.items[:5][3] != nil || s.items[:5][4] != nil {
		t.Error("what was popped is still held")
	}
	s.Clear()
	for k, x := range s.items[:5] {
		if x != nil {
			t.Errorf("what was cleared is still held, at %d", k)
		}
	}
}
