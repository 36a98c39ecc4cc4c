package sparse_test

import (
	"math"
	"slices"
	"testing"

	"heron/sparse"
)

// great is the greatest number of numbers that a set is for.
const great = 1048576

// model is a set as the chapter tells it: what Add told true of, since the last Clear.
type model struct {
	below int
	in    []int
}

func (m *model) add(i int) bool {
	if i < 0 || i >= m.below || slices.Contains(m.in, i) {
		return false
	}
	m.in = append(m.in, i)
	return true
}

// sameSet tells where a set is not as its model, asked for these numbers.
func sameSet(t *testing.T, s *sparse.Set, m *model, asked []int) {
	t.Helper()
	if s.Len() != len(m.in) || !slices.Equal(s.List(), m.in) {
		t.Fatalf("below %d: Len %d, List %v; want %v", m.below, s.Len(), s.List(), m.in)
	}
	for _, i := range asked {
		if s.Has(i) != slices.Contains(m.in, i) {
			t.Fatalf("below %d, in %v: Has(%d) = %t", m.below, m.in, i, s.Has(i))
		}
	}
}

// drain pops all, the top one first.
func drain[T any](s *sparse.Stack[T]) []T {
	var out []T
	for {
		x, is := s.Pop()
		if !is {
			return out
		}
		out = append(out, x)
	}
}

// P3.1 to P3.3: the chapter's examples of sets.
func TestSetExamples(t *testing.T) {
	s := sparse.New(5)
	for _, c := range []struct {
		i    int
		want bool
	}{{3, true}, {1, true}, {3, false}, {5, false}, {-1, false}} {
		if got := s.Add(c.i); got != c.want {
			t.Errorf("Add(%d) = %t", c.i, got)
		}
	}
	if got := s.List(); !slices.Equal(got, []int{3, 1}) || !s.Has(1) || s.Has(0) || s.Len() != 2 {
		t.Errorf("List %v, Has(1) %t, Has(0) %t, Len %d", got, s.Has(1), s.Has(0), s.Len())
	}
	s.Clear()
	if s.Has(1) || !s.Add(1) || !slices.Equal(s.List(), []int{1}) {
		t.Errorf("behind Clear: %v", s.List())
	}
	none := sparse.New(-3)
	if none.Add(0) || len(none.List()) != 0 {
		t.Errorf("New(-3): %v", none.List())
	}
}

// P3.1: a new set has no numbers.
func TestNewIsEmpty(t *testing.T) {
	for _, n := range []int{math.MinInt, -1, 0, 1, 63, 64, 65, 1000, great, math.MaxInt} {
		s := sparse.New(n)
		if s.Len() != 0 || len(s.List()) != 0 || s.Has(-1) || s.Has(0) || s.Has(n) || s.Has(n-1) {
			t.Errorf("New(%d) has %v", n, s.List())
		}
	}
}

// P3.1, P3.2: a set is for the numbers from 0 to n - 1, and for no other, at every n around the words' ends.
func TestSetIsForThoseBelow(t *testing.T) {
	for n := range 200 {
		s, m := sparse.New(n), &model{below: n}
		for i := -3; i < n+70; i++ {
			if got, want := s.Add(i), m.add(i); got != want {
				t.Fatalf("New(%d).Add(%d) = %t", n, i, got)
			}
		}
		sameSet(t, s, m, []int{-2, -1, 0, n - 1, n, n + 1, n + 64})
	}
}

// P3.1: below 1 a set is for none.
func TestSetForNone(t *testing.T) {
	for _, n := range []int{0, -1, -3, -64, -great, math.MinInt, math.MinInt + 1} {
		s := sparse.New(n)
		for _, i := range []int{math.MinInt, n - 1, n, n + 1, -64, -1, 0, 1, 63, 64, great, math.MaxInt} {
			if s.Add(i) || s.Has(i) {
				t.Errorf("New(%d): %d is in", n, i)
			}
		}
		s.Clear()
		if s.Add(0) || s.Len() != 0 || len(s.List()) != 0 {
			t.Errorf("New(%d): %v", n, s.List())
		}
	}
}

// P3.1: above 1048576 a set is as one of that.
func TestSetGreat(t *testing.T) {
	for _, n := range []int{great - 1, great, great + 1, great + 64, 2 * great, 1 << 32, 1<<32 + 5, 1 << 62, math.MaxInt} {
		s, m := sparse.New(n), &model{below: min(n, great)}
		some := []int{great - 1, great, great + 1, great - 2, 0, 5, great / 2, 1 << 32, 1<<32 + 5, math.MaxInt, -1, math.MinInt}
		for _, i := range some {
			if got, want := s.Add(i), m.add(i); got != want {
				t.Errorf("New(%d).Add(%d) = %t", n, i, got)
			}
		}
		sameSet(t, s, m, append(some, 1, 64, great-3))
		s.Clear()
		sameSet(t, s, &model{below: m.below}, some)
	}
}

// P3.1, P3.6: all of 1048576 go in, each once, in their order, and out, and in again.
func TestSetFull(t *testing.T) {
	s := sparse.New(great)
	for round := range 2 {
		// An odd factor goes through all of them, each once.
		for k := range great {
			if !s.Add((k*5 + round) % great) {
				t.Fatalf("round %d: the number %d is refused", round, k)
			}
		}
		for k := range great {
			if !s.Has(k) || s.Add(k) {
				t.Fatalf("round %d: %d is not in", round, k)
			}
		}
		list := s.List()
		if s.Len() != great || len(list) != great {
			t.Fatalf("round %d: Len %d, %d listed", round, s.Len(), len(list))
		}
		for k, i := range list {
			if i != (k*5+round)%great {
				t.Fatalf("round %d: %d at %d", round, i, k)
			}
		}
		s.Clear()
	}
}

// P3.2: wrong numbers are told false, are not in, and change nothing.
func TestAddWrong(t *testing.T) {
	for _, n := range []int{1, 5, 64, 65, 128} {
		s := sparse.New(n)
		s.Add(0)
		wrong := []int{
			math.MinInt, math.MinInt + 1, math.MinInt + 64, -1 << 32, -1<<32 + 1, -great, -128, -65, -64, -63, -n, -1,
			n, n + 1, n + 63, n + 64, great - 1, great, great + 1, 1 << 32, 1<<32 + 1, math.MaxInt - 1, math.MaxInt,
		}
		for _, i := range wrong {
			if s.Add(i) || s.Has(i) || s.Add(i) {
				t.Errorf("New(%d): %d is in", n, i)
			}
		}
		sameSet(t, s, &model{below: n, in: []int{0}}, append(wrong, 0))
	}
}

// P3.2, P3.3, P3.6: every row of up to six calls leaves the set as the chapter tells it.
func TestSetEveryRow(t *testing.T) {
	const below, most = 3, 6
	asked := []int{-1, 0, 1, 2, 3, 4}
	var row [most]int
	var grow func(n int)
	grow = func(n int) {
		s, m := sparse.New(below), &model{below: below}
		for _, call := range row[:n] {
			if call == below+1 {
				s.Clear()
				m.in = nil
				continue
			}
			if got, want := s.Add(call), m.add(call); got != want {
				t.Fatalf("%v: Add(%d) = %t", row[:n], call, got)
			}
		}
		sameSet(t, s, m, asked)
		for call := -1; n < most && call <= below+1; call++ {
			row[n] = call
			grow(n + 1)
		}
	}
	grow(0)
}

// P3.3: the order is that of Add, not that of the numbers, and what was there ahead of a Clear leaves no trace.
func TestSetOrder(t *testing.T) {
	s := sparse.New(300)
	for _, row := range [][]int{
		{299, 0, 64, 63, 128, 1}, {}, {1, 128, 63, 64, 0, 299}, {64}, {63, 64, 65, 62}, {128, 127, 192, 191},
	} {
		for _, i := range row {
			s.Add(i)
			s.Add(row[0])
		}
		sameSet(t, s, &model{below: 300, in: row}, []int{-1, 0, 1, 62, 63, 64, 65, 127, 128, 191, 192, 298, 299, 300})
		s.Clear()
		s.Clear()
		sameSet(t, s, &model{below: 300}, []int{0, 1, 63, 64, 128, 299})
	}
}

// scrawl writes over a list and its spare room.
func scrawl(list []int) {
	whole := list[:cap(list)]
	for k := range whole {
		whole[k] = 9
	}
}

// P3.5: what List answers is new memory, its spare room too: to write there changes neither the set nor another answer.
func TestListIsNew(t *testing.T) {
	for n := range 20 {
		s, m := sparse.New(100), &model{below: 100}
		for k := range n {
			s.Add(80 - k)
			m.add(80 - k)
		}
		one, two := s.List(), s.List()
		scrawl(one)
		if !slices.Equal(two, m.in) {
			t.Fatalf("two answers share memory: %v", two)
		}
		sameSet(t, s, m, []int{9, 80, 79})
		s.Add(90)
		m.add(90)
		scrawl(two)
		sameSet(t, s, m, []int{9, 80, 90})
	}
}

// P3.5: what List answered does not follow what is done with the set behind it.
func TestListStays(t *testing.T) {
	s := sparse.New(10)
	for _, i := range []int{4, 2, 7} {
		s.Add(i)
	}
	kept := s.List()
	s.Add(1)
	s.Clear()
	for _, i := range []int{8, 6, 5, 3} {
		s.Add(i)
	}
	if !slices.Equal(kept, []int{4, 2, 7}) || !slices.Equal(s.List(), []int{8, 6, 5, 3}) {
		t.Errorf("kept %v, the set has %v", kept, s.List())
	}
}

// P3.5: sets have nothing to do with one another.
func TestSetsApart(t *testing.T) {
	a, b := sparse.New(70), sparse.New(70)
	a.Add(3)
	b.Add(69)
	if a.Has(69) || b.Has(3) {
		t.Error("what is in one is in the other")
	}
	a.Clear()
	if a.Len() != 0 || !slices.Equal(b.List(), []int{69}) || !b.Has(69) {
		t.Errorf("%v, %v", a.List(), b.List())
	}
}

// P3.2: to ask a set changes nothing.
func TestSetAsked(t *testing.T) {
	s := sparse.New(4)
	s.Add(2)
	for range 3 {
		if s.Has(1) || !s.Has(2) || s.Len() != 1 || !slices.Equal(s.List(), []int{2}) {
			t.Fatalf("%v", s.List())
		}
	}
	if !s.Add(1) {
		t.Error("what was asked for is in")
	}
}
