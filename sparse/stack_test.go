package sparse_test

import (
	"math"
	"slices"
	"testing"

	"heron/sparse"
)

// P3.4: the chapter's examples of stacks.
func TestStackExamples(t *testing.T) {
	var s sparse.Stack[int]
	s.Push(7)
	s.Push(8)
	for _, c := range []struct {
		want int
		is   bool
	}{{8, true}, {7, true}, {0, false}} {
		if x, is := s.Pop(); x != c.want || is != c.is {
			t.Errorf("Pop = %d, %t; want %d, %t", x, is, c.want, c.is)
		}
	}
	if s.Len() != 0 || s.Most() != 2 {
		t.Errorf("Len %d, Most %d", s.Len(), s.Most())
	}
	s.Push(9)
	if s.Most() != 2 {
		t.Errorf("Most %d behind a second Push", s.Most())
	}
	s.Clear()
	if s.Len() != 0 || s.Most() != 0 {
		t.Errorf("behind Clear: Len %d, Most %d", s.Len(), s.Most())
	}
}

// P3.4: the zero stack is empty, and an empty one answers the zero thing, however often.
func TestStackEmpty(t *testing.T) {
	var numbers sparse.Stack[int]
	var texts sparse.Stack[string]
	var lists sparse.Stack[[]int]
	var rows sparse.Stack[struct {
		a int
		b *int
	}]
	for range 2 {
		for range 3 {
			if x, is := numbers.Pop(); x != 0 || is {
				t.Errorf("%d, %t", x, is)
			}
			if x, is := texts.Pop(); x != "" || is {
				t.Errorf("%q, %t", x, is)
			}
			if x, is := lists.Pop(); x != nil || is {
				t.Errorf("%v, %t", x, is)
			}
			if x, is := rows.Pop(); x.a != 0 || x.b != nil || is {
				t.Errorf("%v, %t", x, is)
			}
		}
		if numbers.Len() != 0 || numbers.Most() != 0 || texts.Len() != 0 || lists.Most() != 0 {
			t.Error("an empty stack is not empty")
		}
		numbers.Clear()
		texts.Clear()
		lists.Clear()
		rows.Clear()
	}
	numbers.Push(5)
	numbers.Pop()
	if x, is := numbers.Pop(); x != 0 || is || numbers.Len() != 0 {
		t.Errorf("behind the last one: %d, %t", x, is)
	}
}

// P3.4, P3.7: every row of up to nine calls leaves the stack as the chapter tells it.
func TestStackEveryRow(t *testing.T) {
	const most, calls = 9, 3
	total := 1
	for range most {
		total *= calls
	}
	for number := range total {
		var s sparse.Stack[int]
		var stand []int
		high, rest := 0, number
		for step := range most {
			switch rest % calls {
			case 0:
				s.Push(step + 1)
				stand = append(stand, step+1)
				high = max(high, len(stand))
			case 1:
				want, wantIs := 0, len(stand) > 0
				if wantIs {
					want, stand = stand[len(stand)-1], stand[:len(stand)-1]
				}
				if x, is := s.Pop(); x != want || is != wantIs {
					t.Fatalf("row %d, step %d: Pop = %d, %t; want %d, %t", number, step, x, is, want, wantIs)
				}
			case 2:
				s.Clear()
				stand, high = nil, 0
			}
			rest /= calls
			if s.Len() != len(stand) || s.Most() != high {
				t.Fatalf("row %d, step %d: Len %d, Most %d; want %d, %d", number, step, s.Len(), s.Most(), len(stand), high)
			}
		}
	}
}

// P3.4: Most behind Pop and behind Clear.
func TestMost(t *testing.T) {
	var s sparse.Stack[string]
	for range 5 {
		s.Push("x")
	}
	for range 4 {
		s.Pop()
	}
	if s.Len() != 1 || s.Most() != 5 {
		t.Errorf("behind Pop: Len %d, Most %d", s.Len(), s.Most())
	}
	s.Push("y")
	s.Push("z")
	if s.Len() != 3 || s.Most() != 5 {
		t.Errorf("below the greatest: Len %d, Most %d", s.Len(), s.Most())
	}
	s.Clear()
	s.Push("a")
	s.Push("b")
	s.Pop()
	if s.Len() != 1 || s.Most() != 2 {
		t.Errorf("behind Clear: Len %d, Most %d", s.Len(), s.Most())
	}
}

// P3.7: what was pushed is popped in the other order, each once: numbers, texts, lists.
func TestOtherOrder(t *testing.T) {
	var numbers sparse.Stack[int]
	in := []int{0, 7, 7, -1, math.MaxInt, math.MinInt, 0}
	for _, x := range in {
		numbers.Push(x)
	}
	out := drain(&numbers)
	slices.Reverse(out)
	if !slices.Equal(out, in) {
		t.Errorf("%v", out)
	}
	var texts sparse.Stack[string]
	for _, x := range []string{"", "a", "\xff", ""} {
		texts.Push(x)
	}
	if got := drain(&texts); !slices.Equal(got, []string{"", "\xff", "a", ""}) {
		t.Errorf("%q", got)
	}
	var lists sparse.Stack[[]int]
	for _, x := range [][]int{{1, 2}, nil, {}, {3}} {
		lists.Push(x)
	}
	if got := drain(&lists); !slices.EqualFunc(got, [][]int{{3}, {}, nil, {1, 2}}, slices.Equal) || got[1] == nil || got[2] != nil {
		t.Errorf("%v", got)
	}
}

// P3.7: many things come back, each once.
func TestStackLong(t *testing.T) {
	const many = 300000
	var s sparse.Stack[int]
	for range 2 {
		for k := range many {
			s.Push(k)
		}
		if s.Len() != many || s.Most() != many {
			t.Fatalf("Len %d, Most %d", s.Len(), s.Most())
		}
		for k := many - 1; k >= 0; k-- {
			if x, is := s.Pop(); !is || x != k {
				t.Fatalf("%d, %t; want %d", x, is, k)
			}
		}
	}
}

// P3.5: a list that is pushed is that list, and neither it nor its spare room is written.
func TestPushedList(t *testing.T) {
	row := []int{1, 2, 3, 4}
	var s sparse.Stack[[]int]
	s.Push(row[:2])
	s.Push(row[1:3])
	s.Push(row)
	s.Pop()
	x, is := s.Pop()
	if !is || len(x) != 2 || cap(x) != cap(row[1:3]) || &x[0] != &row[1] {
		t.Errorf("%v: another list", x)
	}
	s.Push(row[3:])
	s.Clear()
	s.Push(nil)
	if !slices.Equal(row, []int{1, 2, 3, 4}) {
		t.Errorf("what was pushed is written: %v", row)
	}
}

// P3.5: stacks have nothing to do with one another.
func TestStacksApart(t *testing.T) {
	var a, b sparse.Stack[string]
	a.Push("a")
	b.Push("b")
	b.Push("c")
	a.Clear()
	if a.Len() != 0 || a.Most() != 0 || b.Len() != 2 || b.Most() != 2 {
		t.Errorf("Len %d, %d", a.Len(), b.Len())
	}
	a.Push("d")
	if got := drain(&b); !slices.Equal(got, []string{"c", "b"}) {
		t.Errorf("%q", got)
	}
	if x, is := a.Pop(); !is || x != "d" {
		t.Errorf("%q, %t", x, is)
	}
}
