package syntax_test

import (
	"fmt"
	"reflect"
	"slices"
	"testing"
	"unsafe"

	"heron/api"
	"heron/syntax"
)

func class(l ...int) api.Node {
	n := api.Node{Kind: api.NodeClass}
	for i := 0; i < len(l); i += 2 {
		n.Ranges = append(n.Ranges, api.Range{Lo: l[i], Hi: l[i+1]})
	}
	return n
}

// runeOf is the class of one rune.
func runeOf(r int) api.Node { return class(r, r) }

func empty() api.Node { return api.Node{Kind: api.NodeEmpty} }

func assert(which int) api.Node { return api.Node{Kind: api.NodeAssert, Assert: which} }

func cat(subs ...api.Node) api.Node { return api.Node{Kind: api.NodeCat, Subs: subs} }

func alt(subs ...api.Node) api.Node { return api.Node{Kind: api.NodeAlt, Subs: subs} }

func repeat(low, high int, lazy bool, sub api.Node) api.Node {
	return api.Node{Kind: api.NodeRepeat, Min: low, Max: high, Lazy: lazy, Subs: []api.Node{sub}}
}

func group(index int, name string, sub api.Node) api.Node {
	return api.Node{Kind: api.NodeGroup, Index: index, Name: name, Subs: []api.Node{sub}}
}

// same tells whether two trees are the same; a nil list is as an empty one.
func same(a, b api.Node) bool {
	if a.Kind != b.Kind || a.Assert != b.Assert || a.Min != b.Min || a.Max != b.Max || a.Lazy != b.Lazy || a.Index != b.Index || a.Name != b.Name {
		return false
	}
	return slices.Equal(a.Ranges, b.Ranges) && slices.EqualFunc(a.Subs, b.Subs, same)
}

// shown is a pattern, or a tree, as it is told by a failing test.
func shown(of any) string {
	text := fmt.Sprint(of)
	if len(text) > 100 {
		return text[:100] + ".."
	}
	return text
}

// wantTree fails, if a pattern is not just this tree's.
func wantTree(t *testing.T, p string, want api.Node) {
	t.Helper()
	got, err := syntax.Parse(p)
	if err != nil || !same(got, want) {
		t.Errorf("%q: %s, %v; want %s", shown(p), shown(got), err, shown(want))
	}
}

// wantFault fails, if a pattern has not just this fault, and the zero tree beside it.
func wantFault(t *testing.T, p string, code api.Errno, at int) {
	t.Helper()
	got, err := syntax.Parse(p)
	fault, ok := api.Seen(err)
	if err == nil || !ok || fault != (api.Fault{Code: code, At: at}) || !reflect.DeepEqual(got, api.Node{}) {
		t.Errorf("%q: %s, %v; want %d at %d", shown(p), shown(got), err, code, at)
	}
}

// wantTaken fails, if a pattern is not taken, or its tree is not right.
func wantTaken(t *testing.T, p string) {
	t.Helper()
	tree, err := syntax.Parse(p)
	if err != nil {
		t.Errorf("%q: %v", shown(p), err)
		return
	}
	wantRight(t, p, tree)
}

// faultOf is a pattern's fault; the zero one, if it has none.
func faultOf(t *testing.T, p string) api.Fault {
	t.Helper()
	_, err := syntax.Parse(p)
	fault, ok := api.Seen(err)
	if !ok || (err != nil) != (fault.Code != api.OK) {
		t.Fatalf("%q: %v is no fault", shown(p), err)
	}
	return fault
}

// checker goes through a tree as chapter 5 says what is right.
type checker struct {
	nodes, groups int
	names         []string
	wrong         string
}

// wantRight fails, if a tree is not right.
func wantRight(t *testing.T, p string, tree api.Node) {
	t.Helper()
	c := &checker{}
	c.node(tree, 1)
	if c.nodes > api.MaxNodes {
		c.wrong = "too many nodes"
	}
	if brackets(tree) > api.MaxNest {
		c.wrong = "too many brackets open"
	}
	if c.wrong != "" {
		t.Errorf("%q: its tree is not right: %s", shown(p), c.wrong)
	}
}

func (c *checker) node(n api.Node, deep int) {
	c.nodes++
	if deep > api.MaxDepth {
		c.wrong = "too deep"
	}
	if !slices.EqualFunc([]api.Node{n}, []api.Node{c.plain(n)}, same) {
		c.wrong = "a field that should be zero"
	}
	for _, sub := range n.Subs {
		c.node(sub, deep+1)
	}
}

// plain checks the fields that a node of its kind has, and is a node with these alone.
func (c *checker) plain(n api.Node) api.Node {
	out := api.Node{Kind: n.Kind}
	right := false
	switch n.Kind {
	case api.NodeEmpty:
		right = true
	case api.NodeClass:
		out.Ranges, right = n.Ranges, isClass(n.Ranges)
	case api.NodeAssert:
		out.Assert, right = n.Assert, slices.Contains([]int{1, 2, 4, 8, 16, 32}, n.Assert)
	case api.NodeCat, api.NodeAlt:
		out.Subs, right = n.Subs, len(n.Subs) >= 2
	case api.NodeRepeat:
		out.Subs, out.Min, out.Max, out.Lazy = n.Subs, n.Min, n.Max, n.Lazy
		right = len(n.Subs) == 1 && 0 <= n.Min && n.Min <= api.MaxCount && (n.Max == -1 || n.Min <= n.Max && n.Max <= api.MaxCount)
	case api.NodeGroup:
		out.Subs, out.Index, out.Name = n.Subs, n.Index, n.Name
		c.groups++
		right = len(n.Subs) == 1 && n.Index == c.groups && n.Index <= api.MaxGroups && c.isNewName(n.Name)
	}
	if !right {
		c.wrong = "a field that may not be"
	}
	return out
}

func (c *checker) isNewName(name string) bool {
	if name == "" {
		return true
	}
	stands := slices.Contains(c.names, name)
	c.names = append(c.names, name)
	for i := range len(name) {
		b := name[i]
		letter := 'a' <= b && b <= 'z' || 'A' <= b && b <= 'Z' || b == '_'
		if !letter && (i == 0 || b < '0' || b > '9') {
			return false
		}
	}
	return !stands && len(name) <= api.MaxName
}

func isClass(l []api.Range) bool {
	for i, g := range l {
		if g.Lo < 0 || g.Lo > g.Hi || g.Hi > api.MaxRune || g.Lo <= 0xDFFF && g.Hi >= 0xD800 || i > 0 && g.Lo <= l[i-1].Hi+1 {
			return false
		}
	}
	return len(l) <= api.MaxRanges
}

// brackets tells how many are open at one time, at most, in the pattern that chapter 5 prints of a tree.
func brackets(n api.Node) int {
	most := 0
	for _, sub := range n.Subs {
		between := slices.Contains(inBrackets(n.Kind), sub.Kind)
		inner := brackets(sub)
		if between {
			inner++
		}
		most = max(most, inner)
	}
	return most
}

// inBrackets tells which kinds stand between brackets below another one.
func inBrackets(kind int) []int {
	switch kind {
	case api.NodeCat:
		return []int{api.NodeEmpty, api.NodeCat, api.NodeAlt}
	case api.NodeAlt:
		return []int{api.NodeAlt}
	case api.NodeRepeat:
		return []int{api.NodeEmpty, api.NodeCat, api.NodeAlt, api.NodeRepeat}
	case api.NodeGroup:
		return []int{1, 2, 3, 4, 5, 6, 7}
	}
	return nil
}

// piece is where a list lies, with its spare room.
type piece struct{ begin, end uintptr }

// pieces tells where all lists of a tree lie.
func pieces(n api.Node) []piece {
	var out []piece
	if cap(n.Ranges) > 0 {
		begin := uintptr(unsafe.Pointer(unsafe.SliceData(n.Ranges)))
		out = append(out, piece{begin, begin + uintptr(cap(n.Ranges))*unsafe.Sizeof(api.Range{})})
	}
	if cap(n.Subs) > 0 {
		begin := uintptr(unsafe.Pointer(unsafe.SliceData(n.Subs)))
		out = append(out, piece{begin, begin + uintptr(cap(n.Subs))*unsafe.Sizeof(api.Node{})})
	}
	for _, sub := range n.Subs {
		out = append(out, pieces(sub)...)
	}
	return out
}

// wantApart fails, if two lists of some trees share memory.
func wantApart(t *testing.T, p string, trees ...api.Node) {
	t.Helper()
	var all []piece
	for _, tree := range trees {
		all = append(all, pieces(tree)...)
	}
	slices.SortFunc(all, func(a, b piece) int {
		if a.begin < b.begin {
			return -1
		}
		return 1
	})
	for i := 1; i < len(all); i++ {
		if all[i].begin < all[i-1].end {
			t.Errorf("%q: two lists share memory", shown(p))
			return
		}
	}
}
