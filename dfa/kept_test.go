package dfa

import (
	"math/rand"
	"slices"
	"testing"

	"heron/api"
	"heron/prog"
	"heron/syntax"
)

// madeOf is the automaton of a pattern.
func madeOf(t *testing.T, pattern string, states int, longest bool) *DFA {
	t.Helper()
	tree, err := syntax.Parse(pattern)
	if err != nil {
		t.Fatalf("%q: %v", pattern, err)
	}
	p, errno := prog.Compile(tree)
	if errno != api.OK {
		t.Fatalf("%q: %d", pattern, errno)
	}
	d, errno := New(p, states, longest)
	if errno != api.OK {
		t.Fatalf("%q: %d", pattern, errno)
	}
	return d
}

// ask asks a question that is not to be refused.
func ask(t *testing.T, d *DFA, text []int, at, last int, anchored bool) {
	t.Helper()
	if _, _, errno := d.End(text, at, last, anchored); errno != api.OK {
		t.Fatalf("%d", errno)
	}
}

// wantKept fails, if an automaton keeps too many states, or one under another content than its own.
func wantKept(t *testing.T, d *DFA, most int) {
	t.Helper()
	if len(d.table.states) > most || len(d.table.numbers) != len(d.table.states) {
		t.Fatalf("%d states, of %d contents; at most %d", len(d.table.states), len(d.table.numbers), most)
	}
	weight := 0
	for number := range d.table.states {
		s := &d.table.states[number]
		if got, is := d.table.numbers[s.content]; !is || int(got) != number {
			t.Fatalf("the state %d stands under another content", number)
		}
		weight += stateWeight + len(s.content) + stretchWeight*len(s.far)
		for _, e := range s.near {
			if e.made && int(e.next) >= len(d.table.states) {
				t.Fatalf("an edge leads to the state %d of %d", e.next, len(d.table.states))
			}
		}
		for k, l := range s.far {
			if l.lo > l.hi || k > 0 && l.lo <= s.far[k-1].hi || int(l.edge.next) >= len(d.table.states) {
				t.Fatalf("stretches that may not be: %v", s.far)
			}
		}
	}
	for _, s := range d.table.states[len(d.table.states):cap(d.table.states)] {
		if s.content != "" || s.far != nil {
			t.Fatalf("a state that was forgotten is held on to")
		}
	}
	if weight != d.table.weight {
		t.Fatalf("all weigh %d, not %d", weight, d.table.weight)
	}
}

// TestAtMostSoManyStates: P14.1: at no time are there more states than the automaton was made for, whatever is asked of it; and nearly as many, if there are so many.
func TestAtMostSoManyStates(t *testing.T) {
	g := rand.New(rand.NewSource(141))
	for _, longest := range []bool{false, true} {
		for _, states := range []int{2, 3, 4, 5, 17, 100} {
			d := madeOf(t, `(?:a|b|é)*a[^\n]{6}\b|(?:a|b|é)*?b[^c]{5}$`, states, longest)
			greatest := 0
			for range 500 {
				text := make([]int, g.Intn(30))
				for i := range text {
					text[i] = []int{'a', 'b', 'a', 'b', 'a', 'b', 0xE9, 10, -3, 0x400 + g.Intn(3)}[g.Intn(10)]
				}
				at := g.Intn(len(text) + 1)
				ask(t, d, text, at, at+g.Intn(len(text)-at+1), longest || g.Intn(2) == 0)
				wantKept(t, d, states)
				greatest = max(greatest, len(d.table.states))
			}
			if greatest < states*9/10 {
				t.Errorf("longest %v, for %d states: %d at most", longest, states, greatest)
			}
		}
	}
}

// TestMostStates: P14.1: MaxStates states, in a program that has far more.
func TestMostStates(t *testing.T) {
	g := rand.New(rand.NewSource(142))
	text := make([]int, 3*api.MaxStates)
	for i := range text {
		text[i] = 'a' + g.Intn(2)
	}
	d := madeOf(t, `(?:a|b)*a[ab]{17}c`, api.MaxStates, false)
	greatest := 0
	for last := 0; last <= len(text); last += 1000 {
		ask(t, d, text, max(0, last-1000), last, false)
		wantKept(t, d, api.MaxStates)
		greatest = max(greatest, len(d.table.states))
	}
	if greatest < api.MaxStates*9/10 {
		t.Errorf("%d at most", greatest)
	}
}

// TestWhatIsAskedFor: states are told apart by no more than what the program asks for: a rune ahead that no assertion asks for makes no other state, nor does a group.
func TestWhatIsAskedFor(t *testing.T) {
	text := []int{'a', 10, 'a', '-', 'a', 'a', 10, 10, '-', '-', 0xE9, 'a'}
	for _, x := range []struct {
		pattern string
		longest bool
		want    int
	}{
		{`[^b]*`, true, 1}, {`(?:a|[^b]|[\na])*`, false, 1}, {`(?:a|-|\n|\x{E9})*`, false, 1}, {`(?:a|(-)|(\n)|(?:)\x{E9})*`, true, 1},
		{`(?:[^b]|\A)*`, true, 2}, {`(?:[^b]|^)*`, true, 3}, {`(?:[^b]|\b)*`, true, 2}, {`(?:[^b]|\B)*`, true, 2}, {`(?:[^b]|\B|\A)*`, true, 3}, {`(?:[^b]|\b|^)*`, true, 4}, {`(?:[^b]|$)*`, true, 1}, {`(?:[^b]|\z)*`, true, 1},
	} {
		d := madeOf(t, x.pattern, 100, x.longest)
		ask(t, d, text, 0, len(text), true)
		if len(d.table.states) != x.want {
			t.Errorf("%q: %d states; want %d", x.pattern, len(d.table.states), x.want)
		}
	}
}

// TestRowsWithoutOrder: with longest two rows of the same, in another order, are one state; else two, for the one or the other is ahead.
func TestRowsWithoutOrder(t *testing.T) {
	takes := func(r, x int) api.Inst {
		return api.Inst{Op: api.OpRune, X: x, Ranges: []api.Range{{Lo: r, Hi: r}}}
	}
	either := func(x, y int) api.Inst { return api.Inst{Op: api.OpAlt, X: x, Y: y} }
	p := api.Program{Caps: 2, Insts: []api.Inst{
		either(1, 2), either(3, 4), either(5, 6), takes('a', 7), takes('a', 8), takes('b', 8), takes('b', 7), takes('c', 9), takes('c', 10), takes('c', 11), {Op: api.OpMatch}, {Op: api.OpMatch},
	}}
	for _, x := range []struct {
		longest bool
		states  int
	}{{true, 4}, {false, 6}} {
		d, errno := New(p, 100, x.longest)
		if errno != api.OK {
			t.Fatalf("%d", errno)
		}
		ask(t, d, []int{'a', 'c', 'c'}, 0, 3, true)
		ask(t, d, []int{'b', 'c', 'c'}, 0, 3, true)
		if len(d.table.states) != x.states {
			t.Errorf("longest %v: %d states; want %d", x.longest, len(d.table.states), x.states)
		}
	}
}

// TestWeight: few states of long rows, or of many runes, are forgotten when they weigh too much, though more states may be kept; nothing is answered otherwise.
func TestWeight(t *testing.T) {
	g := rand.New(rand.NewSource(143))
	text := make([]int, 16000)
	for i := range text {
		text[i] = 'a' + g.Intn(2)
	}
	d := madeOf(t, `(?:a|b)*a(?:[ab]{1000}){7}c`, api.MaxStates, false)
	text[8000], text[8000+7001] = 'a', 'c'
	forgot, before := false, 0
	for at := range 2 {
		end, is, errno := d.End(text, at, len(text), false)
		if errno != api.OK || !is || end != 15002 {
			t.Errorf("%d, %v, %d", end, is, errno)
		}
		wantKept(t, d, api.MaxStates)
		if d.table.weight > maxWeight+2*stateWeight+2*16000 {
			t.Errorf("%d", d.table.weight)
		}
		forgot = forgot || len(d.table.states) < before
		before = len(d.table.states)
	}
	if !forgot {
		t.Errorf("nothing was forgotten: %d states, which weigh %d", before, d.table.weight)
	}
}

// TestClassesOfOneSum: two classes that happen to have the same sum stay two.
func TestClassesOfOneSum(t *testing.T) {
	one, other := []api.Range{{Lo: 'a', Hi: 'b'}}, []api.Range{{Lo: 'c', Hi: 'd'}}
	c := classes{sumOf(one): {other}}
	for range 2 {
		if own := c.own(one); !slices.Equal(own, one) {
			t.Errorf("%v", own)
		}
	}
	if len(c[sumOf(one)]) != 2 {
		t.Errorf("%v", c)
	}
}
