package syntax_test

import (
	"slices"
	"strconv"
	"strings"
	"testing"

	"heron/api"
	"heron/syntax"
)

// maker writes patterns by a short rule, and knows of each one the tree, or what is wrong with it, as it was written.
type maker struct {
	seed   uint32
	out    []byte
	bad    bool // whether it writes what can stand, but is wrong
	free   bool // whether it writes no capture groups
	groups int
	names  []string
	faults []api.Fault
}

// flags are those that hold around a part.
type flags struct{ fold, all bool }

func (m *maker) pick(n int) int {
	m.seed = m.seed*1664525 + 1013904223
	return int(m.seed>>9) % n
}

func (m *maker) write(s string) { m.out = append(m.out, s...) }

func (m *maker) fault(code api.Errno, at int) {
	m.faults = append(m.faults, api.Fault{Code: code, At: at})
}

// least is the fault that is told: the one whose place is the least, and there the one whose number is.
func (m *maker) least() api.Fault {
	return slices.MinFunc(m.faults, func(a, b api.Fault) int {
		if a.At != b.At {
			return a.At - b.At
		}
		return int(a.Code) - int(b.Code)
	})
}

// alt writes cats, and is their trees.
func (m *maker) alt(deep int, f flags) []api.Node {
	trees := []api.Node{m.cat(deep, f)}
	for m.pick(3) == 0 {
		m.write("|")
		trees = append(trees, m.cat(deep, f))
	}
	return trees
}

// together is the tree of an alt of some cats.
func together(cats []api.Node) api.Node {
	if len(cats) == 1 {
		return cats[0]
	}
	return alt(cats...)
}

func (m *maker) cat(deep int, f flags) api.Node {
	var reps []api.Node
	for m.pick(3) > 0 {
		reps = append(reps, m.rep(deep, f))
	}
	switch len(reps) {
	case 0:
		return empty()
	case 1:
		return reps[0]
	}
	return cat(reps...)
}

func (m *maker) rep(deep int, f flags) api.Node {
	atom := m.atom(deep, f)
	low, high := 0, 0
	switch m.pick(9) {
	case 0:
		m.write("*")
		low, high = 0, -1
	case 1:
		m.write("+")
		low, high = 1, -1
	case 2:
		m.write("?")
		low, high = 0, 1
	case 3:
		low, high = m.numbers()
	default:
		return atom
	}
	lazy := m.pick(2) == 0
	if lazy {
		m.write("?")
	}
	return repeat(low, high, lazy, atom)
}

func (m *maker) numbers() (int, int) {
	at := len(m.out)
	low := []int{0, 1, 2, 9, 10, 99, 100, 999, 1000}[m.pick(9)]
	high := min(low+[]int{0, 1, 8, 500}[m.pick(4)], api.MaxCount)
	if m.bad {
		low = []int{low, low, 1001, 9999}[m.pick(4)]
		high = []int{high, low, 0, 1001, 2000}[m.pick(5)]
	}
	m.write("{" + strconv.Itoa(low))
	form := m.pick(3)
	switch form {
	case 0:
		high = low
	case 1:
		m.write(",")
		high = -1
	default:
		m.write("," + strconv.Itoa(high))
	}
	m.write("}")
	if low > api.MaxCount || high > api.MaxCount || form == 2 && high < low {
		m.fault(api.ErrSyntaxCount, at)
	}
	return low, high
}

func (m *maker) atom(deep int, f flags) api.Node {
	if deep > 0 && m.pick(2) == 0 {
		return m.group(deep-1, f)
	}
	switch m.pick(6) {
	case 0:
		m.write(".")
		if f.all {
			return class(modelClass(nil, f, true)...)
		}
		return class(modelClass([]api.Range{{Lo: 10, Hi: 10}}, f, true)...)
	case 1:
		spelled := []string{`\A`, `\z`, "^", "$", `\b`, `\B`}
		k := m.pick(6)
		m.write(spelled[k])
		return assert(1 << k)
	case 2:
		return class(modelClass(m.set(), flags{}, false)...)
	case 3:
		return m.class(f)
	}
	r, _ := m.rune(`\.+*?()|[]{}^$`)
	return class(modelClass([]api.Range{{Lo: r, Hi: r}}, f, false)...)
}

func (m *maker) group(deep int, f flags) api.Node {
	at := len(m.out)
	kind := m.pick(4)
	if m.free || m.groups == api.MaxGroups {
		kind = 0
	}
	index, name := 0, ""
	switch kind {
	case 0, 1:
		inner := []flags{{}, {fold: true}, {all: true}, {fold: true, all: true}}[m.pick(4)]
		m.write("(?")
		if inner.fold {
			m.write("i")
		}
		if inner.all {
			m.write("s")
		}
		m.write(":")
		f = flags{fold: f.fold || inner.fold, all: f.all || inner.all}
	case 2:
		m.groups++
		index = m.groups
		m.write("(")
	default:
		m.groups++
		index = m.groups
		name = m.name(at)
		m.write("(?P<" + name + ">")
	}
	tree := together(m.alt(deep, f))
	m.write(")")
	if index == 0 {
		return tree
	}
	return group(index, name, tree)
}

func (m *maker) name(at int) string {
	name := []string{"_", "a", "Z9", "n_", "long_name"}[m.pick(5)]
	if !m.bad || m.pick(2) == 0 {
		name += strconv.Itoa(m.groups)
	}
	if slices.Contains(m.names, name) {
		m.fault(api.ErrSyntaxName, at)
	}
	m.names = append(m.names, name)
	return name
}

// set writes one, and is its ranges.
func (m *maker) set() []api.Range {
	which := m.pick(6)
	m.write([]string{`\d`, `\s`, `\w`, `\D`, `\S`, `\W`}[which])
	sets := [][]api.Range{
		{{Lo: '0', Hi: '9'}},
		{{Lo: 9, Hi: 13}, {Lo: 32, Hi: 32}},
		{{Lo: '0', Hi: '9'}, {Lo: 'A', Hi: 'Z'}, {Lo: '_', Hi: '_'}, {Lo: 'a', Hi: 'z'}},
	}
	if which < 3 {
		return sets[which]
	}
	return class(modelClass(sets[which-3], flags{}, true)...).Ranges
}

func (m *maker) class(f flags) api.Node {
	m.write("[")
	negated := m.pick(3) == 0
	if negated {
		m.write("^")
	}
	var items []api.Range
	for first := true; first || m.pick(4) > 0; first = false {
		items = append(items, m.item()...)
	}
	m.write("]")
	return class(modelClass(items, f, negated)...)
}

func (m *maker) item() []api.Range {
	if m.pick(4) == 0 {
		return m.set()
	}
	at := len(m.out)
	lo, right := m.rune(`\[]^-`)
	if m.pick(2) == 0 {
		if !right {
			return nil
		}
		return []api.Range{{Lo: lo, Hi: lo}}
	}
	m.write("-")
	// A second one that is written in vain may not leave its faults behind.
	kept, faults, tries := len(m.out), len(m.faults), 0
	for {
		hi, also := m.rune(`\[]^-`)
		switch {
		case !right || !also:
			return nil
		case hi >= lo:
			return []api.Range{{Lo: lo, Hi: hi}}
		case m.bad:
			m.fault(api.ErrSyntaxRange, at)
			return nil
		}
		m.out, m.faults = m.out[:kept], m.faults[:faults]
		if tries++; tries > 20 {
			m.write(`\x{10ffff}`)
			return []api.Range{{Lo: lo, Hi: api.MaxRune}}
		}
	}
}

// rune writes one that is none of some if it stands for itself, and tells it, and whether it is one.
func (m *maker) rune(some string) (int, bool) {
	edges := []int{0, 7, 9, 10, 11, 12, 13, 31, 32, 33, '-', '/', '0', '9', '@', 'A', 'K', 'Z', '[', '_', '`', 'a', 'k', 'z', '{', '~', 127, 128, 0xE9, 0xFF, 0x7FF, 0x800, 0x20AC, 0xD7FF, 0xE000, 0xFFFD, 0xFFFF, 0x10000, 0x1F600, 0x10FFFF}
	r := edges[m.pick(len(edges))]
	if m.pick(3) == 0 {
		r = 33 + m.pick(94)
	}
	at := len(m.out)
	if m.bad && m.pick(6) == 0 {
		wrong := []int{0xD800, 0xDABC, 0xDFFF, 0x110000, 0xFFFFFF}[m.pick(5)]
		m.write(`\x{` + strconv.FormatInt(int64(wrong), 16) + "}")
		m.fault(api.ErrSyntaxRune, at)
		return 0, false
	}
	if name := strings.IndexByte("\x0A\x09\x0D\x0C\x0B\x07", byte(r)); r < 32 && name >= 0 && m.pick(2) == 0 {
		m.write(`\` + "ntrfva"[name:name+1])
		return r, true
	}
	alone := string(rune(r))
	letter := 'a' <= r && r <= 'z' || 'A' <= r && r <= 'Z' || '0' <= r && r <= '9'
	switch form := m.pick(4); {
	case form <= 1 && !strings.Contains(some, alone):
		m.write(alone)
	case form <= 2 && 33 <= r && r <= 126 && !letter:
		m.write(`\` + alone)
	default:
		m.write(m.spelled(r))
	}
	return r, true
}

// spelled is a rune by its number, in one of the ways to write that.
func (m *maker) spelled(r int) string {
	digits := strconv.FormatInt(int64(r), 16)
	if m.pick(2) == 0 {
		digits = strings.ToUpper(digits)
	}
	if len(digits) == 2 && m.pick(2) == 0 {
		return `\x` + digits
	}
	return `\x{` + strings.Repeat("0", m.pick(7-len(digits))) + digits + "}"
}

func otherCase(r int) int {
	switch {
	case 'a' <= r && r <= 'z':
		return r - 'a' + 'A'
	case 'A' <= r && r <= 'Z':
		return r - 'A' + 'a'
	}
	return r
}

// modelClass tells the class of items, or of all but these, as Lo, Hi, Lo, Hi ..: rune by rune, but that of runes between which nothing can change one is asked.
func modelClass(items []api.Range, f flags, negated bool) []int {
	cuts := []int{0, 'A', 'Z' + 1, 'a', 'z' + 1, 0xD800, 0xE000}
	for _, g := range items {
		cuts = append(cuts, g.Lo, g.Hi+1, otherCase(g.Lo), otherCase(g.Hi)+1)
	}
	slices.Sort(cuts)
	cuts = slices.Compact(cuts)
	has := func(r int) bool {
		return slices.ContainsFunc(items, func(g api.Range) bool { return g.Lo <= r && r <= g.Hi })
	}
	var out []int
	for i, lo := range cuts {
		next := api.MaxRune + 1
		if i+1 < len(cuts) {
			next = cuts[i+1]
		}
		in := has(lo) || f.fold && has(otherCase(lo))
		if in == negated || lo == 0xD800 || lo >= next || lo > 0xD800 && lo < 0xE000 {
			continue
		}
		if len(out) > 0 && out[len(out)-1] == lo-1 {
			out[len(out)-1] = next - 1
			continue
		}
		out = append(out, lo, next-1)
	}
	return out
}

// make writes a pattern, and tells the cats of which it is.
func (m *maker) make(seed int) []api.Node {
	*m = maker{seed: uint32(seed) * 7919, bad: m.bad, free: m.free}
	return m.alt(3, flags{})
}

// P4.1, P4.2, P4.4: patterns of every kind have the tree as which they were written; it is right, and new memory.
func TestMadeTrees(t *testing.T) {
	t.Parallel()
	for seed := range 20000 {
		var m maker
		want := together(m.make(seed))
		p := string(m.out)
		if len(p) > 3000 {
			continue
		}
		wantTree(t, p, want)
		tree, err := syntax.Parse(p)
		if err != nil || t.Failed() {
			t.Fatalf("%q: %v", p, err)
		}
		wantRight(t, p, tree)
		again, _ := syntax.Parse(p)
		wantApart(t, p, tree, again)
	}
}

// P4.1: of all that is wrong with a pattern the first is told; of what is not wrong, nothing.
func TestMadeFaults(t *testing.T) {
	t.Parallel()
	told := map[api.Errno]int{}
	for seed := range 20000 {
		m := maker{bad: true}
		tree := together(m.make(seed))
		p := string(m.out)
		if len(p) > 3000 {
			continue
		}
		if len(m.faults) == 0 {
			wantTree(t, p, tree)
			continue
		}
		least := m.least()
		told[least.Code]++
		wantFault(t, p, least.Code, least.At)
		// What cannot stand goes ahead of it, wherever it is.
		wantFault(t, p+")", api.ErrSyntax, len(p))
		wantFault(t, p+"(", api.ErrSyntax, len(p)+1)
		if t.Failed() {
			t.FailNow()
		}
	}
	for _, code := range []api.Errno{api.ErrSyntaxRune, api.ErrSyntaxRange, api.ErrSyntaxCount, api.ErrSyntaxName} {
		if told[code] < 50 {
			t.Errorf("%d was told %d times alone", code, told[code])
		}
	}
}

// P4.5: a bar between two patterns puts their cats together; brackets around one change nothing.
func TestPutTogether(t *testing.T) {
	t.Parallel()
	for seed := range 4000 {
		one, two := maker{free: true}, maker{free: true}
		cats := one.make(seed)
		more := two.make(seed + 50000)
		p, q := string(one.out), string(two.out)
		if len(p)+len(q) > 3000 {
			continue
		}
		wantTree(t, p+"|"+q, alt(slices.Concat(cats, more)...))
		wantTree(t, "(?:"+p+")", together(cats))
		wantTree(t, "(?:(?:"+p+"))", together(cats))
		if t.Failed() {
			t.FailNow()
		}
	}
}
