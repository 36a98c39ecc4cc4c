package many

import (
	"heron/api"
	"heron/prog"
	"heron/regex"
	"heron/syntax"
)

// newMany makes a set of patterns; the error is a refusal.
func newMany(l []string) (*Many, error) {
	if len(l) < 1 || len(l) > api.MaxSet {
		return nil, refusalOfAll(api.ErrArg)
	}
	// Asked ahead of making any of them: a pattern of some thousand bytes can take a gigabyte, and there can be a hundred of them, which are too great side by side.
	outlines, err := outlinesOf(l)
	if err != nil {
		return nil, err
	}
	if _, errno := prog.Join(outlines); errno != api.OK {
		return nil, refusalOfAll(errno)
	}
	m := &Many{}
	for which, pattern := range l {
		r, err := regex.Compile(pattern)
		if err != nil {
			return nil, refusal{which, err}
		}
		m.patterns = append(m.patterns, r)
	}
	return m, nil
}

// outlinesOf are the outlines of patterns; the error is the refusal of the first one that has none.
func outlinesOf(l []string) ([]api.Program, error) {
	outlines := make([]api.Program, len(l))
	for which, pattern := range l {
		outline, err := outlineOf(pattern)
		if err != nil {
			return nil, refusal{which, err}
		}
		outlines[which] = outline
	}
	return outlines, nil
}

// outlineOf is a program of as many instructions as a pattern's has, but without ranges. It is refused just as regex.Compile refuses the pattern, with the same fault.
func outlineOf(pattern string) (api.Program, error) {
	tree, err := syntax.Parse(pattern)
	if err != nil {
		return api.Program{}, err
	}
	dropRanges(&tree)
	outline, errno := prog.Compile(tree)
	if errno != api.OK {
		return api.Program{}, api.Fault{Code: errno, At: -1}
	}
	return outline, nil
}

// dropRanges leaves the classes of a tree without ranges. One without any comes to one instruction, as each other does.
func dropRanges(tree *api.Node) {
	tree.Ranges = nil
	for i := range tree.Subs {
		dropRanges(&tree.Subs[i])
	}
}
