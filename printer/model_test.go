package printer_test

import (
	"fmt"
	"reflect"
	"regexp"
	"strings"

	"heron/api"
)

// The chapter's table: which fields a node of a kind has beside its Kind.
var fieldsOf = map[int]string{
	api.NodeEmpty:  "",
	api.NodeClass:  "Ranges",
	api.NodeAssert: "Assert",
	api.NodeCat:    "Subs",
	api.NodeAlt:    "Subs",
	api.NodeRepeat: "Subs Min Max Lazy",
	api.NodeGroup:  "Subs Index Name",
}

var (
	nameForm   = regexp.MustCompile(`^[A-Za-z_][A-Za-z0-9_]{0,31}$`)
	assertForm = map[int]string{1: `\A`, 2: `\z`, 4: `^`, 8: `$`, 16: `\b`, 32: `\B`}
)

// modelSound tells, the slow way, whether a tree is sound.
func modelSound(n api.Node) bool {
	return modelNodes(n) <= 200000 && modelDepth(n) <= 10000 && modelFields(n)
}

func modelNodes(n api.Node) int {
	sum := 1
	for _, sub := range n.Subs {
		sum += modelNodes(sub)
	}
	return sum
}

func modelDepth(n api.Node) int {
	most := 0
	for _, sub := range n.Subs {
		most = max(most, modelDepth(sub))
	}
	return most + 1
}

func modelFields(n api.Node) bool {
	own, known := fieldsOf[n.Kind]
	if !known {
		return false
	}
	v := reflect.ValueOf(n)
	for i := range v.NumField() {
		name, field := v.Type().Field(i).Name, v.Field(i)
		zero := field.IsZero() || field.Kind() == reflect.Slice && field.Len() == 0
		if name != "Kind" && !zero && !strings.Contains(" "+own+" ", " "+name+" ") {
			return false
		}
	}
	right := true
	switch n.Kind {
	case api.NodeClass:
		right = modelClass(n.Ranges)
	case api.NodeAssert:
		right = assertForm[n.Assert] != ""
	case api.NodeCat, api.NodeAlt:
		right = len(n.Subs) > 1
	case api.NodeRepeat:
		right = len(n.Subs) == 1 && n.Min >= 0 && n.Min <= 1000 && (n.Max == -1 || n.Max >= n.Min && n.Max <= 1000)
	case api.NodeGroup:
		right = len(n.Subs) == 1 && n.Index > 0 && n.Index <= 500 && (n.Name == "" || nameForm.MatchString(n.Name))
	}
	for _, sub := range n.Subs {
		right = right && modelFields(sub)
	}
	return right
}

func modelClass(l []api.Range) bool {
	for i, g := range l {
		if g.Lo < 0 || g.Lo > g.Hi || g.Hi > 0x10FFFF || g.Lo <= 0xDFFF && g.Hi >= 0xD800 {
			return false
		}
		if i > 0 && g.Lo <= l[i-1].Hi+1 {
			return false
		}
	}
	return len(l) <= 5000
}

// modelRight tells, the slow way, whether a tree is right.
func modelRight(n api.Node) bool {
	if !modelSound(n) {
		return false
	}
	var indexes []int
	names := map[string]int{}
	modelGroups(n, &indexes, names)
	for i, index := range indexes {
		if index != i+1 {
			return false
		}
	}
	for name, times := range names {
		if name != "" && times > 1 {
			return false
		}
	}
	text, _ := modelPattern(n)
	return modelOpen(text) <= 200
}

func modelGroups(n api.Node, indexes *[]int, names map[string]int) {
	if n.Kind == api.NodeGroup {
		*indexes = append(*indexes, n.Index)
		names[n.Name]++
	}
	for _, sub := range n.Subs {
		modelGroups(sub, indexes, names)
	}
}

// How tightly a pattern holds together.
const (
	loose    = iota // with bars
	inRow           // none or several, one behind another
	counted         // with a count
	together        // one atom
)

// modelPattern is a sound tree's pattern, and how tightly it holds together.
func modelPattern(n api.Node) (string, int) {
	switch n.Kind {
	case api.NodeEmpty:
		return "", inRow
	case api.NodeAssert:
		return assertForm[n.Assert], together
	case api.NodeClass:
		return modelOfClass(n.Ranges), together
	case api.NodeGroup:
		return "(" + modelName(n.Name) + modelBelow(n.Subs[0], loose) + ")", together
	case api.NodeRepeat:
		return modelBelow(n.Subs[0], together) + modelCount(n), counted
	}
	var parts []string
	if n.Kind == api.NodeCat {
		for _, sub := range n.Subs {
			parts = append(parts, modelBelow(sub, counted))
		}
		return strings.Join(parts, ""), inRow
	}
	for _, sub := range n.Subs {
		parts = append(parts, modelBelow(sub, inRow))
	}
	return strings.Join(parts, "|"), loose
}

// modelBelow is a pattern, between brackets, if it holds together less than it must.
func modelBelow(n api.Node, least int) string {
	text, holds := modelPattern(n)
	if holds < least {
		return "(?:" + text + ")"
	}
	return text
}

func modelName(name string) string {
	if name == "" {
		return ""
	}
	return "?P<" + name + ">"
}

func modelCount(n api.Node) string {
	text := fmt.Sprintf("{%d,%d}", n.Min, n.Max)
	for long, short := range map[string]string{"{0,-1}": "*", "{1,-1}": "+", "{0,1}": "?"} {
		if text == long {
			text = short
		}
	}
	text = strings.ReplaceAll(text, "-1", "")
	if n.Min == n.Max {
		text = fmt.Sprintf("{%d}", n.Min)
	}
	if n.Lazy {
		text += "?"
	}
	return text
}

func modelOfClass(l []api.Range) string {
	if len(l) == 0 {
		return `[^\x{0}-\x{10FFFF}]`
	}
	if len(l) == 1 && l[0].Lo == l[0].Hi {
		return modelOfRune(l[0].Lo, `\ . + * ? ( ) | [ ] { } ^ $`)
	}
	var parts []string
	for _, g := range l {
		ends := modelOfRune(g.Lo, `\ [ ] ^ -`)
		if g.Lo < g.Hi {
			ends += "-" + modelOfRune(g.Hi, `\ [ ] ^ -`)
		}
		parts = append(parts, ends)
	}
	return "[" + strings.Join(parts, "") + "]"
}

func modelOfRune(r int, special string) string {
	switch {
	case r < 33 || r > 126:
		return fmt.Sprintf(`\x{%X}`, r)
	case strings.Contains(special, string(rune(r))):
		return `\` + string(rune(r))
	}
	return string(rune(r))
}

// modelOpen tells how many brackets of a pattern are open at one time, at most, by going through its bytes.
func modelOpen(p string) int {
	open, most, inClass := 0, 0, false
	for i := 0; i < len(p); i++ {
		switch b := p[i]; {
		case b == '\\':
			i++
		case b == '[':
			inClass = true
		case b == ']':
			inClass = false
		case b == '(' && !inClass:
			open++
			most = max(most, open)
		case b == ')' && !inClass:
			open--
		}
	}
	return most
}
