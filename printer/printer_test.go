package printer_test

import (
	"fmt"
	"math"
	"slices"
	"strings"
	"sync"
	"testing"

	"heron/api"
	"heron/printer"
	"heron/syntax"
)

// P5.2: the chapter's examples of trees that are built.
func TestExamplesOfTrees(t *testing.T) {
	a, b, c := runeOf('a'), runeOf('b'), runeOf('c')
	wantPrint(t, empty(), "")
	wantPrint(t, cat(a, cat(b, c)), "a(?:bc)")
	wantPrint(t, alt(alt(a, b), c), "(?:a|b)|c")
	wantPrint(t, star(empty()), "(?:)*")
	wantPrint(t, cat(empty(), a), "(?:)a")
	wantWrong(t, "Group 2 ahead of Group 1", cat(group(2, "", a), group(1, "", b)))
	wantUnsound(t, "NodeCat of one Sub", cat(a))
	wantUnsound(t, "NodeRepeat 3 to 2", repeat(3, 2, false, a))
}

// P5.2, P5.4: the chapter's examples of trees that are told by their patterns.
func TestExamplesOfPatterns(t *testing.T) {
	for _, x := range [][2]string{
		{"", ""}, {"()", "()"}, {"a|", "a|"},
		{"(?:a*)*?", "(?:a*)*?"}, {"a{0,1}", "a?"}, {"a{1,}", "a+"}, {"a{3}", "a{3}"}, {"a{2,5}?", "a{2,5}?"},
		{"(?i:k)", "[Kk]"},
		{".", `[\x{0}-\x{9}\x{B}-\x{D7FF}\x{E000}-\x{10FFFF}]`},
		{"[^a]", "[\\x{0}-`b-\\x{D7FF}\\x{E000}-\\x{10FFFF}]"},
		{`\.`, `\.`}, {" ", `\x{20}`},
		{"^a$", "^a$"}, {`\Aa\z`, `\Aa\z`}, {`\b\B`, `\b\B`},
		{"(?P<x>a)(b)", "(?P<x>a)(b)"},
		{"a{0,}", "a*"}, {"a{1}", "a{1}"}, {"a{1,1}", "a{1}"}, {"a{0}", "a{0}"}, {"a{0,0}?", "a{0}?"}, {"a{1,2}", "a{1,2}"}, {"a{0,2}", "a{0,2}"}, {"a{2,}", "a{2,}"},
		{"a??", "a??"}, {"a+?", "a+?"}, {"a{1000}", "a{1000}"}, {"a{1000,}?", "a{1000,}?"}, {"a{0,1000}", "a{0,1000}"},
		{"(?:a)", "a"}, {"(?:(?:))", ""}, {"(?:a|b)|c", "(?:a|b)|c"}, {"(?:(?:a|b))*", "(?:a|b)*"}, {"(?:[ab])*", "[a-b]*"}, {"(?:())*", "()*"},
		{`[\d\D]`, `[\x{0}-\x{D7FF}\x{E000}-\x{10FFFF}]`}, {`[^\d\D]`, `[^\x{0}-\x{10FFFF}]`},
		{`[\-\]\[\^\\]`, `[\-\[-\^]`}, {`[.+*?(){}|$]`, `[$(-+.?{-}]`}, {`\-`, "-"}, {`\/`, "/"}, {`[\x{10FFFF}]`, `\x{10FFFF}`}, {"\u00E9", `\x{E9}`},
	} {
		tree, err := syntax.Parse(x[0])
		if err != nil {
			t.Error(x[0], err)
			continue
		}
		wantPrint(t, tree, x[1])
	}
}

// P5.1: each kind with each field that is not its own set.
func TestFieldsOfOthers(t *testing.T) {
	own := []api.Node{
		empty(), class(), runeOf('a'), class('a', 'b', 'x', 'z'), assert(api.BeginText), cat(empty(), empty()), alt(empty(), empty()),
		repeat(1, 2, true, empty()), repeat(0, 0, false, empty()), group(1, "n", empty()), group(1, "", empty()),
	}
	set := map[string]func(n *api.Node, value int){
		"Ranges": func(n *api.Node, _ int) { n.Ranges = []api.Range{{Lo: 'a', Hi: 'a'}} },
		"Assert": func(n *api.Node, value int) { n.Assert = value },
		"Subs":   func(n *api.Node, value int) { n.Subs = many(value&3, empty()) },
		"Min":    func(n *api.Node, value int) { n.Min = value },
		"Max":    func(n *api.Node, value int) { n.Max = value },
		"Lazy":   func(n *api.Node, _ int) { n.Lazy = true },
		"Index":  func(n *api.Node, value int) { n.Index = value },
		"Name":   func(n *api.Node, _ int) { n.Name = "n" },
	}
	for _, n := range own {
		wantErrnos(t, shown(n), n, api.OK, api.OK, api.OK)
		for field, change := range set {
			if slices.Contains(strings.Fields(fieldsOf[n.Kind]), field) {
				continue
			}
			for _, value := range []int{-1, 1, 2, 1 << 32, math.MinInt} {
				wrong := n
				change(&wrong, value)
				if field == "Subs" && len(wrong.Subs) == 0 {
					continue
				}
				what := fmt.Sprintf("kind %d with %s %d", n.Kind, field, value)
				wantUnsound(t, what, wrong)
				wantUnsound(t, what+", below", cat(empty(), group(1, "", wrong)))
			}
		}
	}
}

// P5.1: kinds that there are not.
func TestUnknownKinds(t *testing.T) {
	wantUnsound(t, "the zero node", api.Node{})
	for _, kind := range []int{0, -1, 8, 9, 64, 1<<32 + 1, math.MinInt, math.MaxInt} {
		wantUnsound(t, fmt.Sprint("kind ", kind), api.Node{Kind: kind})
		wantUnsound(t, fmt.Sprint("kind ", kind, " with a Sub"), api.Node{Kind: kind, Subs: many(1, empty())})
		wantUnsound(t, fmt.Sprint("kind ", kind, " below"), alt(runeOf('a'), star(api.Node{Kind: kind})))
	}
}

// P5.1: Subs too many or too few.
func TestHowManySubs(t *testing.T) {
	for count := range 4 {
		several, one := api.ErrTree, api.ErrTree
		if count >= 2 {
			several = api.OK
		}
		if count == 1 {
			one = api.OK
		}
		subs := many(count, runeOf('a'))
		wantErrnos(t, fmt.Sprint("Cat of ", count), api.Node{Kind: api.NodeCat, Subs: subs}, several, several, several)
		wantErrnos(t, fmt.Sprint("Alt of ", count), api.Node{Kind: api.NodeAlt, Subs: subs}, several, several, several)
		wantErrnos(t, fmt.Sprint("Repeat of ", count), api.Node{Kind: api.NodeRepeat, Max: -1, Subs: subs}, one, one, one)
		wantErrnos(t, fmt.Sprint("Group of ", count), api.Node{Kind: api.NodeGroup, Index: 1, Subs: subs}, one, one, one)
	}
}

// P5.1, P5.2: assertions.
func TestAssertions(t *testing.T) {
	for which := -70; which <= 200; which++ {
		if text, is := assertForm[which]; is {
			wantPrint(t, assert(which), text)
			wantPrint(t, star(assert(which)), text+"*")
			continue
		}
		wantUnsound(t, fmt.Sprint("assertion ", which), assert(which))
	}
	wantUnsound(t, "a great assertion", assert(1<<32+1))
}

// P5.1, P5.2: counts, at their limits and past them.
func TestCounts(t *testing.T) {
	numbers := []int{math.MinInt, -1000, -2, -1, 0, 1, 2, 3, 10, 999, 1000, 1001, 1002, 9999, 1 << 32, math.MaxInt}
	for _, least := range numbers {
		for _, most := range numbers {
			for _, lazy := range []bool{false, true} {
				tree := repeat(least, most, lazy, runeOf('a'))
				if least < 0 || least > 1000 || most != -1 && (most < least || most > 1000) {
					wantUnsound(t, fmt.Sprint(least, " to ", most), tree)
					continue
				}
				text, _ := modelPattern(tree)
				wantPrint(t, tree, text)
			}
		}
	}
}

// P5.1: Indexes.
func TestIndexes(t *testing.T) {
	a := runeOf('a')
	wantPrint(t, group(1, "", a), "(a)")
	for _, index := range []int{math.MinInt, -1, 0, 501, 502, 1 << 32, math.MaxInt} {
		wantUnsound(t, fmt.Sprint("Group ", index), group(index, "", a))
	}
	for _, index := range []int{2, 3, 499, 500} {
		wantWrong(t, fmt.Sprint("Group ", index, " alone"), group(index, "", a))
	}
	all := many(500, group(1, "", a))
	for i := range all {
		all[i].Index = i + 1
	}
	wantPrint(t, cat(all...), strings.Repeat("(a)", 500))
	wantUnsound(t, "501 groups", cat(append(slices.Clone(all), group(501, "", a))...))
	wantWrong(t, "501 groups, one twice", cat(append(slices.Clone(all), group(500, "", a))...))
	wantWrong(t, "501 groups, the first one twice", cat(append(slices.Clone(all), group(1, "", a))...))
	wantWrong(t, "500 groups, two turned about", cat(append(slices.Clone(all[:498]), all[499], all[498])...))
	wantWrong(t, "one left out", cat(group(1, "", a), group(3, "", a)))
	wantWrong(t, "one twice", cat(group(1, "", a), group(1, "", a)))
	wantWrong(t, "the last one first", cat(group(3, "", a), group(2, "", a), group(1, "", a)))
}

// P5.1: groups are gone through from the outside and the left.
func TestOrderOfGroups(t *testing.T) {
	a := runeOf('a')
	wantPrint(t, group(1, "", group(2, "", a)), "((a))")
	wantWrong(t, "the inner one first", group(2, "", group(1, "", a)))
	wantPrint(t, cat(group(1, "", group(2, "", a)), group(3, "", a)), "((a))(a)")
	wantWrong(t, "side by side ahead of below", cat(group(1, "", group(3, "", a)), group(2, "", a)))
	wantPrint(t, alt(star(group(1, "", alt(a, group(2, "", a)))), repeat(2, 3, true, group(3, "", a))), "(a|(a))*|(a){2,3}?")
	wantWrong(t, "each side of an Alt from 1 on", alt(group(1, "", a), group(1, "", a)))
}

// P5.1: names.
func TestNames(t *testing.T) {
	for first := range 256 {
		for _, rest := range []string{"", "x", "0"} {
			name := string([]byte{byte(first)}) + rest
			letter := 'a' <= first && first <= 'z' || 'A' <= first && first <= 'Z' || first == '_'
			if letter {
				wantPrint(t, group(1, name, empty()), "(?P<"+name+">)")
			} else {
				wantUnsound(t, fmt.Sprintf("the name %q", name), group(1, name, empty()))
			}
			name = rest + string([]byte{byte(first)})
			if rest == "x" && (letter || '0' <= first && first <= '9') {
				wantPrint(t, group(1, name, empty()), "(?P<"+name+">)")
			} else if rest == "x" {
				wantUnsound(t, fmt.Sprintf("the name %q", name), group(1, name, empty()))
			}
		}
	}
	long := "_" + strings.Repeat("Z9", 15) + "z"
	wantPrint(t, group(1, long, empty()), "(?P<"+long+">)")
	for _, name := range []string{long + "x", long[:31] + " ", long[:31] + "-", strings.Repeat("x", 5000), "a b", "a.", "\u00E9", "x\u00E9", "x\u0130", "x\x00", "n>"} {
		wantUnsound(t, fmt.Sprintf("the name %q", shown(name)), group(1, name, empty()))
	}
}

// P5.1: a Name stands once, but none.
func TestNamesTwice(t *testing.T) {
	a := runeOf('a')
	wantPrint(t, cat(group(1, "", a), group(2, "", a), group(3, "x", a), group(4, "X", a), group(5, "xx", a)), "(a)(a)(?P<x>a)(?P<X>a)(?P<xx>a)")
	wantWrong(t, "side by side", cat(group(1, "x", a), group(2, "", a), group(3, "x", a)))
	wantWrong(t, "one within the other", group(1, "x", star(group(2, "x", a))))
	wantWrong(t, "on both sides of an Alt", alt(group(1, "x", a), group(2, "x", a)))
	all := many(500, group(1, "", a))
	for i := range all {
		all[i].Index, all[i].Name = i+1, fmt.Sprint("name_", i)
	}
	wantErrnos(t, "500 names", cat(all...), api.OK, api.OK, api.OK)
	all[499].Name = "name_0"
	wantWrong(t, "the first name as the last one, too", cat(all...))
	all[499].Name = "name_498"
	wantWrong(t, "the last name twice", cat(all...))
}

// P5.1: what is no class, and what is one.
func TestClasses(t *testing.T) {
	for _, l := range [][]int{
		{5, 3}, {-1, 3}, {-5, -3}, {0, 0x110000}, {0x110000, 0x110000}, {0xD7FF, 0xE000}, {0xD800, 0xD800}, {0xDFFF, 0xE000}, {0xD700, 0xD800}, {0, 0x10FFFF},
		{1, 2, 3, 4}, {1, 2, 2, 4}, {1, 2, 1, 2}, {8, 9, 1, 2}, {1, 9, 3, 4}, {1, 2, 9, 8},
		{math.MinInt, math.MaxInt}, {math.MaxInt, math.MaxInt}, {math.MinInt, math.MinInt}, {1, math.MaxInt, 5, 6},
	} {
		wantUnsound(t, fmt.Sprint("ranges ", l), class(l...))
	}
	wantPrint(t, class(), `[^\x{0}-\x{10FFFF}]`)
	wantPrint(t, star(class()), `[^\x{0}-\x{10FFFF}]*`)
	wantPrint(t, cat(class(), class()), `[^\x{0}-\x{10FFFF}][^\x{0}-\x{10FFFF}]`)
	wantPrint(t, class(0, 0xD7FF, 0xE000, 0x10FFFF), `[\x{0}-\x{D7FF}\x{E000}-\x{10FFFF}]`)
	wantPrint(t, class(0xD7FF, 0xD7FF, 0xE000, 0xE000), `[\x{D7FF}\x{E000}]`)
	wantPrint(t, class('a', 'a', 'c', 'c'), "[ac]")
	wantPrint(t, class('a', 'b'), "[a-b]")
	wantPrint(t, class('a', 'c', 'e', 'e', 'g', 'h'), "[a-ceg-h]")
	wantPrint(t, class('^', '^', 'a', 'a'), `[\^a]`)
	wantPrint(t, class('*', '-', 'a', 'a'), `[*-\-a]`)
	wantPrint(t, class('-', '.', 'a', 'a'), `[\--.a]`)
	wantPrint(t, class(31, 34, 125, 128), `[\x{1F}-"}-\x{80}]`)
}

// P5.1, P5.2: classes of as many ranges as there may be.
func TestManyRanges(t *testing.T) {
	var l []int
	want := "["
	for i := range 5000 {
		l = append(l, 0x100+2*i, 0x100+2*i)
		want += fmt.Sprintf(`\x{%X}`, 0x100+2*i)
	}
	wantPrint(t, class(l...), want+"]")
	wantUnsound(t, "5001 ranges", class(append(l, 0x10FFFF, 0x10FFFF)...))
	for i := range 5000 {
		l[2*i], l[2*i+1] = 0x10000+20*i, 0x10003+20*i
	}
	wantBig(t, "5000 ranges of many bytes", class(l...))
	wantBig(t, "many such", cat(many(1000, class(l...))...))
}

// P5.2: each rune, by itself and in a class.
func TestRunes(t *testing.T) {
	for r := 0; r <= api.MaxRune; r++ {
		if 0xD800 <= r && r <= 0xDFFF {
			wantUnsound(t, fmt.Sprintf("rune %X", r), runeOf(r))
			continue
		}
		if want := modelOfRune(r, `\.+*?()|[]{}^$`); r < 0x3000 || r%64 < 2 || r > 0x10FF00 {
			wantPrint(t, runeOf(r), want)
		} else if got, e := printer.Print(runeOf(r)); got != want || e != api.OK {
			t.Errorf("rune %X: %q, %d", r, got, e)
		}
	}
	for lo := range 140 {
		for hi := lo; hi < 140; hi++ {
			ends := modelOfRune(lo, `\[]^-`) + "-" + modelOfRune(hi, `\[]^-`)
			if lo < hi {
				wantPrint(t, class(lo, hi), "["+ends+"]")
			}
			if hi > lo+1 {
				wantPrint(t, class(lo, lo, hi, hi), "["+strings.Replace(ends, "-"+modelOfRune(hi, `\[]^-`), modelOfRune(hi, `\[]^-`), 1)+"]")
			}
		}
	}
}

// P5.2: which ones stand in brackets, below which.
func TestBrackets(t *testing.T) {
	a := runeOf('a')
	below := []struct {
		tree                  api.Node
		text                  string
		inCat, inAlt, inCount bool
	}{
		{empty(), "", true, false, true},
		{a, "a", false, false, false},
		{class('a', 'b'), "[a-b]", false, false, false},
		{class(), `[^\x{0}-\x{10FFFF}]`, false, false, false},
		{assert(api.EndLine), "$", false, false, false},
		{cat(a, a), "aa", true, false, true},
		{alt(a, a), "a|a", true, true, true},
		{alt(empty(), empty()), "|", true, true, true},
		{star(a), "a*", false, false, true},
		{repeat(2, 2, true, a), "a{2}?", false, false, true},
		{group(1, "", a), "(a)", false, false, false},
		{group(1, "x", empty()), "(?P<x>)", false, false, false},
	}
	between := func(text string, is bool) string {
		if is {
			return "(?:" + text + ")"
		}
		return text
	}
	for _, x := range below {
		wantPrint(t, x.tree, x.text)
		wantPrint(t, cat(x.tree, a), between(x.text, x.inCat)+"a")
		wantPrint(t, cat(a, x.tree), "a"+between(x.text, x.inCat))
		wantPrint(t, cat(a, x.tree, a), "a"+between(x.text, x.inCat)+"a")
		wantPrint(t, alt(x.tree, a), between(x.text, x.inAlt)+"|a")
		wantPrint(t, alt(a, x.tree), "a|"+between(x.text, x.inAlt))
		wantPrint(t, star(x.tree), between(x.text, x.inCount)+"*")
		wantPrint(t, repeat(0, 1, true, x.tree), between(x.text, x.inCount)+"??")
		outer := copied(group(1, "", x.tree))
		numbered(&outer, 0)
		wantPrint(t, outer, "("+x.text+")")
	}
}

// P5.1: MaxNodes nodes, and one more.
func TestHowManyNodes(t *testing.T) {
	a := runeOf('a')
	wantBig(t, "one row", cat(many(199999, a)...))
	wantUnsound(t, "one row and one more", cat(many(200000, a)...))
	wantBig(t, "one row of bars", alt(many(199999, empty())...))
	wantUnsound(t, "one row of bars and one more", alt(many(200000, empty())...))
	// 1 + 1000 * (1 + 99 * 2) is 199001 nodes.
	rows := many(1000, alt(many(99, star(a))...))
	wantBig(t, "rows within a row", cat(append(slices.Clone(rows), many(999, a)...)...))
	wantUnsound(t, "rows within a row and one more", cat(append(slices.Clone(rows), many(1000, a)...)...))
	wantUnsound(t, "one more, below the first one", cat(append([]api.Node{star(a)}, many(199998, a)...)...))
	wantBig(t, "a last one, below the last one", cat(append(many(199997, a), star(a))...))
	wantUnsound(t, "one more, below the last one", cat(append(many(199998, a), star(a))...))
	wantUnsound(t, "a million", cat(many(1000000, a)...))
}

// chain is a tree of so many nodes one below another: count - 1 made by above, and a last one.
func chain(count int, last api.Node, above func(api.Node) api.Node) api.Node {
	for range count - 1 {
		last = above(last)
	}
	return last
}

// below are the ways in which one node can be below another.
func below() map[string]func(api.Node) api.Node {
	a := runeOf('a')
	return map[string]func(api.Node) api.Node{
		"Repeat":    star,
		"Group":     func(n api.Node) api.Node { return group(1, "", n) },
		"Cat first": func(n api.Node) api.Node { return cat(n, a) },
		"Cat last":  func(n api.Node) api.Node { return cat(a, n) },
		"Alt first": func(n api.Node) api.Node { return alt(n, a) },
		"Alt last":  func(n api.Node) api.Node { return alt(a, n) },
	}
}

// P5.1: MaxDepth nodes one below another, and one more.
func TestDepth(t *testing.T) {
	for name, above := range below() {
		wantWrong(t, name+" to the limit", chain(10000, empty(), above))
		wantUnsound(t, name+" past the limit", chain(10001, empty(), above))
		wantUnsound(t, name+" far past the limit", chain(60000, empty(), above))
	}
	wantUnsound(t, "the last of many too deep", alt(append(many(1000, star(empty())), chain(10000, empty(), star))...))
	wantWrong(t, "the last of many at the limit", alt(append(many(1000, star(empty())), chain(9999, empty(), star))...))
}

// P5.1: MaxNest brackets open, and one more; each chain, with how many nodes it has as many as may be.
func TestNest(t *testing.T) {
	a := runeOf('a')
	at := map[string]int{"Repeat": 202, "Group": 201, "Cat first": 202, "Cat last": 202, "Alt first": 202, "Alt last": 202}
	for name, above := range below() {
		tree := copied(chain(at[name], a, above))
		numbered(&tree, 0)
		text, _ := modelPattern(tree)
		if modelOpen(text) != 200 {
			t.Error(name, "has", modelOpen(text), "brackets")
		}
		wantPrint(t, tree, text)
		tree = copied(chain(at[name]+1, a, above))
		numbered(&tree, 0)
		wantWrong(t, name+" past the limit", tree)
		if text, _ = modelPattern(tree); len(text) > 0 {
			if fault, _ := api.Seen(second(syntax.Parse(text))); fault.Code != api.ErrSyntaxNest {
				t.Error(name, "past the limit is taken:", fault)
			}
		}
	}
}

func second(_ api.Node, err error) error { return err }

// P5.1: brackets that are asked for by the innermost node, by groups and by others in turn.
func TestNestOfSeveralKinds(t *testing.T) {
	a := runeOf('a')
	wantErrnos(t, "200 counts of nothing", chain(201, empty(), star), api.OK, api.OK, api.OK)
	wantWrong(t, "201 counts of nothing", chain(202, empty(), star))
	wantErrnos(t, "201 rows, the last one with nothing", chain(200, cat(a, empty()), func(n api.Node) api.Node { return cat(a, n) }), api.OK, api.OK, api.OK)
	wantWrong(t, "202 rows, the last one with nothing", chain(201, cat(a, empty()), func(n api.Node) api.Node { return cat(a, n) }))
	turns := func(n api.Node) api.Node { return group(1, "", alt(a, cat(a, star(alt(a, n))))) }
	for count := 99; count <= 102; count++ {
		tree := copied(chain(count, a, turns))
		numbered(&tree, 0)
		wantModel(t, tree)
		tree = copied(star(chain(count, a, turns)))
		numbered(&tree, 0)
		wantModel(t, tree)
		tree = copied(star(star(chain(count, a, turns))))
		numbered(&tree, 0)
		wantModel(t, tree)
	}
	deep := chain(201, a, func(n api.Node) api.Node { return cat(a, n) })
	wantErrnos(t, "brackets one behind another", cat(many(20, deep)...), api.OK, api.OK, api.OK)
	wantErrnos(t, "many brackets, none open", cat(many(1000, alt(a, a))...), api.OK, api.OK, api.OK)
	wantPrint(t, cat(many(300, runeOf('('))...), strings.Repeat(`\(`, 300))
	wantPrint(t, cat(many(300, class('(', '(', 'a', 'a'))...), strings.Repeat("[(a]", 300))
}

// P5.2: MaxPattern bytes, and one more, whatever stands last.
func TestLongPatterns(t *testing.T) {
	a := runeOf('a')
	for _, last := range []api.Node{
		a, runeOf('.'), runeOf(' '), runeOf(0x10FFFF), class(), class('a', 'c'), class('a', 'a', 'c', 'c'), assert(api.WordEdge), assert(api.EndLine),
		star(a), repeat(1000, 1000, true, a), repeat(7, -1, false, a), repeat(7, 8, true, cat(a, a)), empty(), cat(a, a), alt(a, empty()), alt(empty(), a),
		group(1, "", empty()), group(1, "", a), group(1, "name", alt(a, a)), star(star(star(empty()))),
	} {
		text := modelBelow(last, counted)
		row := many(65536-len(text), a)
		wantPrint(t, cat(append(row, last)...), strings.Repeat("a", len(row))+text)
		wantBig(t, "one more, ahead of "+text, cat(append(append(row, a), last)...))
		wantPrint(t, cat(append([]api.Node{last}, row...)...), text+strings.Repeat("a", len(row)))
		wantBig(t, "one more, behind "+text, cat(append(append([]api.Node{last}, row...), a)...))
	}
	wantPrint(t, alt(many(65537, empty())...), strings.Repeat("|", 65536))
	wantBig(t, "one more bar", alt(many(65538, empty())...))
	wantPrint(t, group(1, "", cat(many(65534, a)...)), "("+strings.Repeat("a", 65534)+")")
	wantBig(t, "a group of one more", group(1, "", cat(many(65535, a)...)))
	wantPrint(t, star(cat(many(65531, a)...)), "(?:"+strings.Repeat("a", 65531)+")*")
	wantBig(t, "a count of one more", star(cat(many(65532, a)...)))
}

// P5.2: what is wrong goes ahead of what is too long.
func TestWrongAndLong(t *testing.T) {
	long := many(70000, runeOf('a'))
	wantBig(t, "long", cat(long...))
	wantWrong(t, "long, with a wrong group behind", cat(append(slices.Clone(long), group(2, "", empty()))...))
	wantUnsound(t, "long, with a wrong node behind", cat(append(slices.Clone(long), api.Node{})...))
	wantWrong(t, "long, with too many brackets behind", cat(append(slices.Clone(long), chain(203, empty(), star))...))
}

// W1: lists that stand within themselves are trees of too many nodes.
func TestListsWithinThemselves(t *testing.T) {
	one := make([]api.Node, 1)
	one[0] = api.Node{Kind: api.NodeRepeat, Max: -1, Subs: one}
	wantUnsound(t, "one within itself", one[0])
	two := make([]api.Node, 2)
	two[0] = api.Node{Kind: api.NodeCat, Subs: two}
	two[1] = two[0]
	wantUnsound(t, "two within themselves", two[0])
	two[1] = empty()
	wantUnsound(t, "one of two within itself", two[0])
	shared := runeOf('a')
	for range 40 {
		shared = cat(shared, shared)
	}
	wantUnsound(t, "2 to the 40th nodes", shared)
	wide := runeOf('a')
	for range 3 {
		wide = cat(many(50, wide)...)
	}
	wantBig(t, "one list, seen from several nodes", wide)
}

// W5: a nil list is as an empty one.
func TestEmptyLists(t *testing.T) {
	room := [4]api.Node{{Kind: 99}, {Kind: 99}, {Kind: 99}, {Kind: 99}}
	for _, n := range []api.Node{empty(), assert(api.EndText), runeOf('a'), class()} {
		text, _ := modelPattern(n)
		n.Subs = room[:0]
		if len(n.Ranges) == 0 {
			n.Ranges = make([]api.Range, 0, 5)
		}
		wantPrint(t, n, text)
	}
	tree := cat(room[:0]...)
	wantUnsound(t, "a Cat of no Subs, with room", tree)
	n := star(runeOf('a'))
	n.Ranges = []api.Range{}
	wantPrint(t, n, "a*")
}

// withRoom is a tree in memory of its own whose lists have room behind them, which is marked.
func withRoom(n api.Node) api.Node {
	ranges := append(slices.Clone(n.Ranges), api.Range{Lo: -7, Hi: -7}, api.Range{Lo: -8, Hi: -8})
	subs := append(slices.Clone(n.Subs), api.Node{Kind: -7}, api.Node{Kind: -8})
	n.Ranges, n.Subs = ranges[:len(n.Ranges)], subs[:len(n.Subs)]
	for i := range n.Subs {
		n.Subs[i] = withRoom(n.Subs[i])
	}
	return n
}

// roomMarked tells whether the room behind each list of a tree is still as it was marked.
func roomMarked(n api.Node) bool {
	ranges, subs := n.Ranges[len(n.Ranges):len(n.Ranges)+2], n.Subs[len(n.Subs):len(n.Subs)+2]
	marked := ranges[0].Lo == -7 && ranges[1].Hi == -8 && subs[0].Kind == -7 && subs[1].Kind == -8
	for _, sub := range n.Subs {
		marked = marked && roomMarked(sub)
	}
	return marked
}

// P5.3: what is handed in is neither changed nor kept.
func TestHandedIn(t *testing.T) {
	for i := range 2000 {
		g := &grower{seed: uint32(i)}
		made := g.tree(4)
		numbered(&made, 0)
		if i%3 == 0 {
			nodes := nodesOf(&made)
			g.spoil(nodes[g.pick(len(nodes))])
		}
		tree := withRoom(made)
		printer.Sound(tree)
		right := printer.Right(tree)
		text, e := printer.Print(tree)
		if !same(tree, made) || !roomMarked(tree) {
			t.Fatalf("%s was changed", shown(made))
		}
		kept := strings.Clone(text)
		for _, n := range nodesOf(&tree) {
			clear(n.Ranges)
		}
		clear(tree.Subs)
		if text != kept {
			t.Fatalf("%q: the answer changes with the tree", kept)
		}
		again, f := printer.Print(made)
		if again != kept || e != f || printer.Right(made) != right {
			t.Fatalf("%q, %d, a second time %q, %d", kept, e, again, f)
		}
	}
}

// W2: one tree, asked about at one time by many.
func TestAtOneTime(t *testing.T) {
	g := &grower{seed: 11}
	tree := g.tree(5)
	numbered(&tree, 0)
	want, _ := printer.Print(tree)
	var all sync.WaitGroup
	for range 8 {
		all.Go(func() {
			for range 100 {
				if got, _ := printer.Print(tree); got != want {
					t.Errorf("%q; want %q", shown(got), shown(want))
				}
			}
		})
	}
	all.Wait()
}
