package regex

import (
	"errors"
	"strings"
	"sync"

	"heron/api"
	"heron/literal"
	"heron/mirror"
	"heron/onepass"
	"heron/prog"
	"heron/syntax"
)

// pattern is what was made of one, once and for all: many ask it at one time.
type pattern struct {
	source  string
	names   []string
	program api.Program

	// The mirror's program takes as much room as the program itself, and few questions need it: it is made when the first of them does.
	tree api.Node
	turn sync.Once
	back api.Program

	anchored bool // The tree begins with \A: from a place on, nothing is found but at it.
	oneWay   bool // It is anchored, and the program is one of onepass.

	lead      *literal.Finder // of the runes with which every match begins; nil: of no use
	leadLen   int
	leadIsAll bool // A match is these runes and no more.
}

// newPattern makes all of a pattern; the error is, or wraps, a Fault.
func newPattern(source string) (*pattern, error) {
	tree, err := syntax.Parse(source)
	if err != nil {
		return nil, err
	}
	program, errno := prog.Compile(tree)
	if isWrong(errno) {
		return nil, api.Fault{Code: errno, At: -1}
	}
	// A copy: the pattern may be a piece of something great, which would be kept with it.
	p := &pattern{source: strings.Clone(source), names: namesOf(tree, nil), program: program, tree: tree}
	p.anchored = beginsText(tree)
	p.oneWay = p.anchored && onepass.Is(program)
	p.setLead()
	return p, nil
}

// isWrong tells whether an error's number is that of one.
func isWrong(errno api.Errno) bool { return !errors.Is(errno, api.OK) }

// backward is the program of the tree's mirror. It is no greater than the tree's own, which was made: so nothing is refused.
func (p *pattern) backward() api.Program {
	p.turn.Do(func() {
		turned, _ := mirror.Mirror(p.tree)
		p.back, _ = prog.Compile(turned)
	})
	return p.back
}

// setLead has the runes with which every match begins. None are of no use, but if a match has no others.
func (p *pattern) setLead() {
	lead, whole := literal.Prefix(p.program)
	if len(lead) == 0 && !whole {
		return
	}
	p.lead, _ = literal.New(lead)
	p.leadLen, p.leadIsAll = len(lead), whole
}

// namesOf puts the names of a tree's groups behind others. Groups are numbered as they begin, from the left: in this order a tree is gone through.
func namesOf(tree api.Node, names []string) []string {
	if tree.Kind == api.NodeGroup {
		names = append(names, tree.Name)
	}
	for _, sub := range tree.Subs {
		names = namesOf(sub, names)
	}
	return names
}

// beginsText tells whether a tree begins with \A, as the chapter has it.
func beginsText(tree api.Node) bool {
	switch tree.Kind {
	case api.NodeAssert:
		return tree.Assert == api.BeginText
	case api.NodeCat, api.NodeGroup:
		return beginsText(tree.Subs[0])
	case api.NodeRepeat:
		return tree.Min >= 1 && beginsText(tree.Subs[0])
	case api.NodeAlt:
		for _, sub := range tree.Subs {
			if !beginsText(sub) {
				return false
			}
		}
		return true
	}
	return false
}
