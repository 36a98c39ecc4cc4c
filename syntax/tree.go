package syntax

import (
	"heron/api"
	"heron/runes"
)

// The bytes that are no plain runes.
const notPlain = `\.+*?()|[]{}^$`

// The rune that ends a line.
const lineEnd = 10

// How many digits a number of a count has at most.
const countDigits = 4

// level is what was read of a group that stands open, or, outermost, of the pattern. Levels stand in a row of their own, not in calls within calls: a pattern may open as many as it has bytes.
type level struct {
	cats, reps []api.Node
	fold       bool   // the flag i: letters are there in both cases
	all        bool   // the flag s: the dot is all runes
	index      int    // of a capture group; 0: it is none
	name       string // of a capture group that has one
}

// endCat makes one node of the reps that were read, and begins the next cat.
func (l *level) endCat() {
	switch len(l.reps) {
	case 0:
		l.cats = append(l.cats, api.Node{Kind: api.NodeEmpty})
	case 1:
		l.cats = append(l.cats, l.reps[0])
	default:
		l.cats = append(l.cats, api.Node{Kind: api.NodeCat, Subs: l.reps})
	}
	l.reps = nil
}

// tree is the node of all that was read.
func (l *level) tree() api.Node {
	l.endCat()
	inner := l.cats[0]
	if len(l.cats) > 1 {
		inner = api.Node{Kind: api.NodeAlt, Subs: l.cats}
	}
	if l.index == 0 {
		return inner
	}
	return api.Node{Kind: api.NodeGroup, Index: l.index, Name: l.name, Subs: []api.Node{inner}}
}

// top is the innermost level.
func (r *reader) top() *level { return &r.open[len(r.open)-1] }

// pattern takes all bytes.
func (r *reader) pattern() api.Node {
	for !r.ended() {
		switch r.text[r.at] {
		case '|':
			r.at++
			r.top().endCat()
		case '(':
			r.beginGroup()
		case ')':
			r.endGroup()
		default:
			r.addRep(r.atom())
		}
	}
	if len(r.open) > 1 {
		r.giveUp()
	}
	return r.top().tree()
}

// addRep puts an atom, with the count that perhaps stands behind it, into the innermost level.
func (r *reader) addRep(atom api.Node) {
	rep := r.counted(atom)
	top := r.top()
	top.reps = append(top.reps, rep)
}

// beginGroup takes what begins a group, and opens its level.
func (r *reader) beginGroup() {
	at := r.at
	r.at++
	inner := level{fold: r.top().fold, all: r.top().all}
	switch {
	case !r.took('?'):
		inner.index = r.nextIndex(at)
	case r.took('P'):
		inner.name = r.groupName(at)
		inner.index = r.nextIndex(at)
	default:
		// A flag that stands here holds besides those around: none is ever taken back.
		inner.fold = r.took('i') || inner.fold
		inner.all = r.took('s') || inner.all
		r.must(':')
	}
	// The outermost level is no group.
	if len(r.open)-1 >= api.MaxNest {
		r.note(api.ErrSyntaxNest, at)
	}
	r.open = append(r.open, inner)
}

// endGroup takes what ends the innermost group.
func (r *reader) endGroup() {
	if len(r.open) == 1 {
		r.giveUp()
	}
	r.at++
	group := r.top().tree()
	r.open = r.open[:len(r.open)-1]
	r.addRep(group)
}

// nextIndex is that of a capture group that begins at a place.
func (r *reader) nextIndex(at int) int {
	r.groups++
	if r.groups > api.MaxGroups {
		r.note(api.ErrSyntaxGroups, at)
	}
	return r.groups
}

// groupName takes the name of the group that begins at a place.
func (r *reader) groupName(at int) string {
	r.must('<')
	begin := r.at
	if r.sees('0', '9') || !r.seesWord() {
		r.giveUp()
	}
	for r.seesWord() && r.at-begin < api.MaxName {
		r.at++
	}
	name := string(r.text[begin:r.at])
	r.must('>')
	if _, stands := r.names[name]; stands {
		r.note(api.ErrSyntaxName, at)
	}
	r.names[name] = struct{}{}
	return name
}

// counted is an atom with the count that perhaps stands next.
func (r *reader) counted(atom api.Node) api.Node {
	low, high := 0, 0
	switch {
	case r.took('*'):
		low, high = 0, -1
	case r.took('+'):
		low, high = 1, -1
	case r.took('?'):
		low, high = 0, 1
	case r.sees('{', '{'):
		low, high = r.numbers()
	default:
		return atom
	}
	return api.Node{Kind: api.NodeRepeat, Min: low, Max: high, Lazy: r.took('?'), Subs: []api.Node{atom}}
}

// numbers takes a count between brackets: how often at least, and at most (-1: any number).
func (r *reader) numbers() (low, high int) {
	at := r.at
	r.must('{')
	low = r.number()
	high = low
	if r.took(',') {
		high = -1
		if !r.sees('}', '}') {
			high = r.number()
		}
	}
	r.must('}')
	if max(low, high) > api.MaxCount || high >= 0 && high < low {
		r.note(api.ErrSyntaxCount, at)
	}
	return low, high
}

// number takes a number without noughts ahead.
func (r *reader) number() int {
	if r.took('0') {
		return 0
	}
	begin, n := r.at, 0
	for r.at == begin || r.sees('0', '9') && r.at-begin < countDigits {
		n = n*10 + int(r.take('0', '9')-'0')
	}
	return n
}

// atom takes one that is no group.
func (r *reader) atom() api.Node {
	switch r.text[r.at] {
	case '.':
		r.at++
		return r.dot()
	case '^':
		r.at++
		return api.Node{Kind: api.NodeAssert, Assert: api.BeginLine}
	case '$':
		r.at++
		return api.Node{Kind: api.NodeAssert, Assert: api.EndLine}
	case '[':
		return r.class()
	case '\\':
		return r.escape()
	}
	return r.literal(r.runeBut(notPlain))
}

// dot is the class of a dot.
func (r *reader) dot() api.Node {
	var without []api.Range
	if !r.top().all {
		without = only(lineEnd)
	}
	ranges, _ := runes.Negate(without)
	return api.Node{Kind: api.NodeClass, Ranges: ranges}
}

// escape takes an atom that begins with a backslash.
func (r *reader) escape() api.Node {
	letter := r.escaped()
	if assert := assertOf(letter); assert != 0 {
		r.at += 2
		return api.Node{Kind: api.NodeAssert, Assert: assert}
	}
	if set := setOf(letter); set != nil {
		r.at += 2
		return api.Node{Kind: api.NodeClass, Ranges: set}
	}
	code, _ := r.single()
	return r.literal(code)
}

// literal is the class of a rune that stands for itself.
func (r *reader) literal(code int) api.Node {
	return api.Node{Kind: api.NodeClass, Ranges: r.aboutCase(only(code))}
}

// assertOf is the assertion that a letter is behind a backslash; 0: none.
func assertOf(letter byte) int {
	switch letter {
	case 'A':
		return api.BeginText
	case 'z':
		return api.EndText
	case 'b':
		return api.WordEdge
	case 'B':
		return api.NoWordEdge
	}
	return 0
}
