package regex_test

import (
	"testing"
	"unicode/utf8"

	"heron/api"
	"heron/meaning"
	"heron/pike"
	"heron/syntax"
)

// The chapter's words, slowly: the text of bytes, the find, the scan.

// cut are the runes of bytes, and the offsets of their places.
func cut(b []byte) ([]int, []int) {
	var text []int
	places := []int{0}
	for at := 0; at < len(b); {
		r, size := utf8.DecodeRune(b[at:])
		at += size
		text, places = append(text, int(r)), append(places, at)
	}
	return text, places
}

// finder is who tells the captures of the find from a place on; nil: there is none.
type finder func(text []int, at int) []int

// byMeaning finds by the parses of a tree (chapter 6); false: they are not told, of this tree or of this text.
func byMeaning(tree api.Node, text []int) (finder, bool) {
	if _, errno := meaning.Parses(tree, text, 0); errno != api.OK {
		return nil, false
	}
	return func(text []int, at int) []int {
		for ; at <= len(text); at++ {
			if l, _ := meaning.Parses(tree, text, at); len(l) > 0 {
				return l[0].Caps
			}
		}
		return nil
	}, true
}

// byProgram finds by a program, place by place, anchored at each.
func byProgram(t testing.TB, p api.Program) finder {
	return func(text []int, at int) []int {
		for ; at <= len(text); at++ {
			f, errno := pike.Run(p, text, at, true)
			if errno != api.OK {
				t.Fatalf("pike: %d", errno)
			}
			if f.Ok {
				return f.Caps
			}
		}
		return nil
	}
}

// modelScan is the scan (P16.4): the items, their captures as offsets.
func modelScan(find finder, b []byte) [][]int {
	text, places := cut(b)
	var items [][]int
	at, last := 0, -1
	for {
		caps := find(text, at)
		if caps == nil {
			return items
		}
		isEmpty := caps[0] == caps[1]
		if isEmpty && caps[0] == last {
			at = caps[0]
		} else {
			items = append(items, offsetsOf(caps, places))
			at, last = caps[1], caps[1]
		}
		if isEmpty {
			if at == len(text) {
				return items
			}
			at++
		}
	}
}

// offsetsOf are captures as offsets.
func offsetsOf(caps, places []int) []int {
	var l []int
	for _, place := range caps {
		if place >= 0 {
			place = places[place]
		}
		l = append(l, place)
	}
	return l
}

// model is the scan of a pattern in bytes, by what its tree means; false: that is not told.
func model(t testing.TB, pattern string, b []byte) ([][]int, bool) {
	t.Helper()
	text, _ := cut(b)
	find, told := byMeaning(treeOf(t, pattern), text)
	if !told {
		return nil, false
	}
	return modelScan(find, b), true
}

// modelBegins tells whether a tree begins with \A (P16.5).
func modelBegins(tree api.Node) bool {
	first := len(tree.Subs) > 0 && modelBegins(tree.Subs[0])
	switch tree.Kind {
	case api.NodeAssert:
		return tree.Assert == api.BeginText
	case api.NodeCat, api.NodeGroup:
		return first
	case api.NodeRepeat:
		return first && tree.Min > 0
	case api.NodeAlt:
		count := 0
		for _, sub := range tree.Subs {
			if modelBegins(sub) {
				count++
			}
		}
		return count == len(tree.Subs)
	}
	return false
}

// TestModel: the models say of the chapter's examples what the chapter says.
func TestModel(t *testing.T) {
	for _, x := range examples() {
		all, told := model(t, x.pattern, []byte(x.text))
		if !told || !sameAll(all, x.all) {
			t.Errorf("%q in %q: the model has %v, %v; want %v", x.pattern, x.text, all, told, x.all)
		}
		if all := modelScan(byProgram(t, programOf(t, x.pattern)), []byte(x.text)); !sameAll(all, x.all) {
			t.Errorf("%q in %q: the program's model has %v; want %v", x.pattern, x.text, all, x.all)
		}
	}
	for _, x := range oneWays() {
		if tree, err := syntax.Parse(x.pattern); err != nil || modelBegins(tree) != x.begins {
			t.Errorf("%q: the model has %v, %v; want %v", x.pattern, modelBegins(tree), err, x.begins)
		}
	}
}
