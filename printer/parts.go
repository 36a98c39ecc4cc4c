package printer

import (
	"strconv"

	"heron/api"
)

// part is a node of a right tree, by its kind.
type part interface {
	// writeTo writes the node's pattern, without the brackets that only what stands above it asks for.
	writeTo(w *writer)
}

// The kinds of parts, each with what it has to write.
type (
	empty  struct{}
	class  struct{ ranges []api.Range }
	assert struct{ which int }
	cat    struct{ subs []api.Node }
	alt    struct{ subs []api.Node }
	repeat struct {
		sub         api.Node
		least, most int
		lazy        bool
	}
	group struct {
		sub  api.Node
		name string
	}
)

// partOf is a sound node by its kind.
func partOf(n api.Node) part {
	switch n.Kind {
	case api.NodeClass:
		return class{ranges: n.Ranges}
	case api.NodeAssert:
		return assert{which: n.Assert}
	case api.NodeCat:
		return cat{subs: n.Subs}
	case api.NodeAlt:
		return alt{subs: n.Subs}
	case api.NodeRepeat:
		return repeat{sub: n.Subs[0], least: n.Min, most: n.Max, lazy: n.Lazy}
	case api.NodeGroup:
		return group{sub: n.Subs[0], name: n.Name}
	}
	return empty{}
}

// inBrackets tells whether a part, right below another one, stands between `(?:` and `)`: without them it would be read as something else.
func inBrackets(above, below part) bool {
	switch above.(type) {
	case cat:
		switch below.(type) {
		case empty, cat, alt:
			return true
		}
	case alt:
		switch below.(type) {
		case alt:
			return true
		}
	case repeat:
		switch below.(type) {
		case empty, cat, alt, repeat:
			return true
		}
	}
	return false
}

func (e empty) writeTo(w *writer) {}

func (c class) writeTo(w *writer) {
	if len(c.ranges) == 0 {
		w.write(noRune)
		return
	}
	if len(c.ranges) == 1 && c.ranges[0].Lo == c.ranges[0].Hi {
		w.writeRune(c.ranges[0].Lo, special)
		return
	}
	w.write("[")
	for _, g := range c.ranges {
		w.writeRune(g.Lo, specialInClass)
		if g.Hi != g.Lo {
			w.write("-")
			w.writeRune(g.Hi, specialInClass)
		}
	}
	w.write("]")
}

func (a assert) writeTo(w *writer) {
	switch a.which {
	case api.BeginText:
		w.write(`\A`)
	case api.EndText:
		w.write(`\z`)
	case api.BeginLine:
		w.write("^")
	case api.EndLine:
		w.write("$")
	case api.WordEdge:
		w.write(`\b`)
	case api.NoWordEdge:
		w.write(`\B`)
	}
}

func (c cat) writeTo(w *writer) {
	for _, sub := range c.subs {
		w.writeBelow(c, sub)
	}
}

func (a alt) writeTo(w *writer) {
	for i, sub := range a.subs {
		if i > 0 {
			w.write("|")
		}
		w.writeBelow(a, sub)
	}
}

func (r repeat) writeTo(w *writer) {
	w.writeBelow(r, r.sub)
	w.write(r.count())
	if r.lazy {
		w.write("?")
	}
}

// count is what stands behind a part that is repeated: the shortest form that says it.
func (r repeat) count() string {
	least, most := strconv.Itoa(r.least), strconv.Itoa(r.most)
	switch {
	case r.least == 0 && r.most == -1:
		return "*"
	case r.least == 1 && r.most == -1:
		return "+"
	case r.least == 0 && r.most == 1:
		return "?"
	case r.most == r.least:
		return "{" + least + "}"
	case r.most == -1:
		return "{" + least + ",}"
	}
	return "{" + least + "," + most + "}"
}

func (g group) writeTo(w *writer) {
	w.write("(")
	if g.name != "" {
		w.write("?P<" + g.name + ">")
	}
	w.writeBelow(g, g.sub)
	w.write(")")
}
