package syntax_test

import (
	"strings"
	"testing"

	"heron/api"
)

// walk goes through bytes in every way of the grammar, and keeps how far any of them came. As every way can be gone on with to a pattern, that is the longest beginning.
type walk struct {
	text string
	far  int
}

// rule calls then with each place where what it stands for can end that begins at a place.
type rule func(w *walk, at int, then func(int))

// within is a byte between two.
func within(first, last byte) rule {
	return func(w *walk, at int, then func(int)) {
		if at < len(w.text) && first <= w.text[at] && w.text[at] <= last {
			w.far = max(w.far, at+1)
			then(at + 1)
		}
	}
}

func word(text string) rule {
	var parts []rule
	for i := range len(text) {
		parts = append(parts, within(text[i], text[i]))
	}
	return row(parts...)
}

func row(parts ...rule) rule {
	if len(parts) == 0 {
		return func(w *walk, at int, then func(int)) { then(at) }
	}
	first, others := parts[0], parts[1:]
	if len(others) == 0 {
		return first
	}
	rest := row(others...)
	return func(w *walk, at int, then func(int)) {
		first(w, at, func(end int) { rest(w, end, then) })
	}
}

func either(parts ...rule) rule {
	return func(w *walk, at int, then func(int)) {
		for _, part := range parts {
			part(w, at, then)
		}
	}
}

func oneOf(some string) rule {
	var parts []rule
	for i := range len(some) {
		parts = append(parts, within(some[i], some[i]))
	}
	return either(parts...)
}

func perhaps(part rule) rule { return either(row(), part) }

// upTo is a part from no time to some times.
func upTo(times int, part rule) rule {
	if times == 0 {
		return row()
	}
	return perhaps(row(part, upTo(times-1, part)))
}

func anyTimes(part rule) rule {
	var again rule
	again = func(w *walk, at int, then func(int)) {
		then(at)
		part(w, at, func(end int) { again(w, end, then) })
	}
	return again
}

// The chapter's grammar, rule by rule.
var (
	digit  = within('0', '9')
	letter = either(within('a', 'z'), within('A', 'Z'))
	hex    = either(digit, within('a', 'f'), within('A', 'F'))

	// longRune is the encoding of a rune of more than one byte.
	tail     = within(0x80, 0xBF)
	longRune = either(
		row(within(0xC2, 0xDF), tail),
		row(within(0xE0, 0xE0), within(0xA0, 0xBF), tail),
		row(either(within(0xE1, 0xEC), within(0xEE, 0xEF)), tail, tail),
		row(within(0xED, 0xED), within(0x80, 0x9F), tail),
		row(within(0xF0, 0xF0), within(0x90, 0xBF), tail, tail),
		row(within(0xF1, 0xF3), tail, tail, tail),
		row(within(0xF4, 0xF4), within(0x80, 0x8F), tail, tail),
	)

	plain  = either(shortBut(`\.+*?()|[]{}^$`), longRune)
	look   = oneOf("AzbB")
	set    = oneOf("dDsSwW")
	signs  = either(within(33, '/'), within(':', '@'), within('[', '`'), within('{', 126))
	single = either(oneOf("ntrfva"), signs, row(word("x"), hex, hex), row(word("x{"), hex, upTo(5, hex), word("}")))
	name   = row(either(letter, word("_")), upTo(api.MaxName-1, either(letter, digit, word("_"))))
	num    = either(word("0"), row(within('1', '9'), upTo(3, digit)))
	count  = either(oneOf("*+?"), row(word("{"), num, word("}")), row(word("{"), num, word(",}")), row(word("{"), num, word(","), num, word("}")))
	one    = either(shortBut(`\[]^-`), longRune, row(word(`\`), single))
	item   = either(row(word(`\`), set), row(one, perhaps(row(word("-"), one))))
)

// shortBut is a rune of one byte that is none of some.
func shortBut(some string) rule {
	short := within(0, 0x7F)
	return func(w *walk, at int, then func(int)) {
		if at < len(w.text) && strings.IndexByte(some, w.text[at]) < 0 {
			short(w, at, then)
		}
	}
}

// The rules that stand within one another.
var atom, cats, alts rule

func init() {
	inner := func(w *walk, at int, then func(int)) { alts(w, at, then) }
	atom = either(
		plain, oneOf(".^$"), row(word(`\`), either(look, set, single)),
		row(word("["), perhaps(word("^")), item, anyTimes(item), word("]")),
		row(word("("), inner, word(")")),
		row(word("(?P<"), name, word(">"), inner, word(")")),
		row(word("(?"), perhaps(word("i")), perhaps(word("s")), word(":"), inner, word(")")),
	)
	cats = anyTimes(row(atom, perhaps(row(count, perhaps(word("?"))))))
	alts = row(cats, anyTimes(row(word("|"), cats)))
}

// byGrammar tells whether bytes are a pattern, and how long their longest beginning is that is one of a pattern.
func byGrammar(p string) (bool, int) {
	w := &walk{text: p}
	whole := false
	alts(w, 0, func(end int) { whole = whole || end == len(p) })
	return whole, w.far
}

// asGrammar fails, if Parse does not tell of bytes whether they are a pattern, and how far they could have become one.
func asGrammar(t *testing.T, p string) {
	t.Helper()
	whole, far := byGrammar(p)
	fault := faultOf(t, p)
	if whole {
		if fault.Code == api.ErrSyntax || fault.Code == api.ErrLong {
			t.Errorf("%q is a pattern: %v", p, fault)
		}
		return
	}
	if fault != (api.Fault{Code: api.ErrSyntax, At: far}) {
		t.Errorf("%q: %v, want 40 at %d", p, fault, far)
	}
}

// everyRow hands on all rows of up to some parts.
func everyRow(most int, parts []string, do func(string)) {
	var grow func(n int, sofar string)
	grow = func(n int, sofar string) {
		do(sofar)
		if n == most {
			return
		}
		for _, part := range parts {
			grow(n+1, sofar+part)
		}
	}
	grow(0, "")
}

// P4.1: all short rows of bytes of which some part of the grammar is made are patterns just if the grammar says so, and faults are where it says.
func TestEveryShortRow(t *testing.T) {
	t.Parallel()
	for _, c := range []struct {
		ahead, of string
		most      int
	}{
		{"", `a|()*?`, 6},
		{"", `a{},012?`, 5},
		{"a{", `01},?`, 6},
		{"a{1", `09},?`, 6},
		{"[", `[]^-a\d`, 5},
		{"[a", `]^-b\n`, 5},
		{"", `\x{}4fFg`, 5},
		{`\x{`, `0fG}`, 8},
		{`[\x`, `{4}]-`, 6},
		{"", `(?:is)P`, 5},
		{"(?P", `<a_1>)`, 5},
		{"(?", `is:a)|`, 5},
		{"", "\x00\x0A \x7F\\.+$^", 4},
	} {
		everyRow(c.most, strings.Split(c.of, ""), func(p string) { asGrammar(t, c.ahead+p) })
	}
}

// somewhere are beginnings that stand at every place at which the grammar asks for something else.
var somewhere = []string{
	"", "a", "a*", "a*?", "a?", "a??", "a|", "(", "(a", "(a|", "()", "(?", "(?i", "(?s", "(?is", "(?:", "(?i:", "(?is:", "(?P", "(?P<", "(?P<a", "(?P<_9",
	"(?P<abcdefghijklmnopqrstuvwxyz01234", "(?P<abcdefghijklmnopqrstuvwxyz012345", "(?P<abcdefghijklmnopqrstuvwxyz0123456", "(?P<a>", "(?P<a>b", "(?P<a>)",
	"a{", "a{0", "a{1", "a{12", "a{123", "a{1234", "a{0,", "a{1,0", "a{1,2", "a{1,23", "a{1,234", "a{1,2345", "a{1}", "a{1}?", "a{1,}", "a{1,}?", "a{1,2}",
	".", "^", "$", `\A`, `\z`, `\b`, `\B`, `\d`, `\.`, `\n`, `\x41`, `\x{41}`, "[a]", "[^a]",
	"\\", `\x`, `\x4`, `\x{`, `\x{4`, `\x{41`, `\x{41F`, `\x{41Fa`, `\x{10FFF`, `\x{10FFFF`,
	"[", "[^", "[a", "[a-", "[a-b", "[^a", "[^a-", `[\`, `[a-\`, `[a\`, `[\d`, `[\n`, `[\n-`, `[\n-\r`, `[\x`, `[\x4`, `[\x{`, `[\x{4`, `[\x{10FFFF`, `[a-\x`, `[a-\x{`, "[.", "[(",
	"\xC2", "\xDF", "\xE0", "\xE0\xA0", "\xE1", "\xE1\x80", "\xEC", "\xED", "\xED\x9F", "\xEE", "\xEF", "\xEF\xBF", "\xF0", "\xF0\x90", "\xF0\x90\x80", "\xF1", "\xF3", "\xF3\x80", "\xF4", "\xF4\x8F", "\xF4\x8F\xBF",
	"[\xC3", "[\xC3\xA9", "[\xC3\xA9-", "[\xC3\xA9-\xE2", "[\xE0", "[\xE2\x82", "[\xED", "[\xF0", "[\xF4", "[\xF4\x8F\xBF", "[^\xC3",
}

// P4.1: at every place of the grammar every byte can stand just if the grammar says so; and behind it, every byte that is somebody's.
func TestEveryByteEverywhere(t *testing.T) {
	t.Parallel()
	behind := strings.Split("\\ . + * ? ( ) | [ ] { } ^ $ - , : < > 0 9 a f g i s x z A P Z _ \x00 \n ! ~ \x7F \x80 \xBF \xC3 \xE2 \xF4 \xFF", " ")
	for _, ahead := range somewhere {
		asGrammar(t, ahead)
		for b := range 256 {
			p := ahead + string([]byte{byte(b)})
			asGrammar(t, p)
			if _, far := byGrammar(p); far < len(p) {
				continue // what stands behind such a byte: TestBeginnings
			}
			for _, more := range behind {
				asGrammar(t, p+more)
			}
		}
	}
}

// P4.1: bytes that are no rune's, at every byte at which it changes what may stand.
func TestRunesByteByByte(t *testing.T) {
	t.Parallel()
	edges := strings.Split("a \x7F \x80 \x8F \x90 \x9F \xA0 \xBF \xC0 \xC1 \xC2 \xDF \xE0 \xE1 \xEC \xED \xEE \xEF \xF0 \xF1 \xF3 \xF4 \xF5 \xF8 \xFF", " ")
	everyRow(4, edges, func(p string) { asGrammar(t, p) })
	everyRow(3, edges, func(p string) {
		asGrammar(t, "["+p+"]")
		asGrammar(t, `\`+p)
		asGrammar(t, "a"+p+"b")
	})
	for a := range 256 {
		for b := range 256 {
			asGrammar(t, string([]byte{byte(a), byte(b)}))
		}
	}
}

// wholes are patterns, and bytes that are none, of which others are made.
var wholes = []string{
	"", "a", "ab*?", "(?:ab)*", "(a)(?P<x>(b))", "(?i:k[a-c])", "(?is:.|^$)", `^$\z\A\b\B`, "[^\\n\xC3\xA9-\xE2\x82\xAC]", `[\x{D000}-\x{F000}]`, `[^\d\D\w-]`, "a{2}b{3,}c{0,4}?",
	`\x41\x{e9}\x{10FFFF}\_\-\~\!`, "\xF0\x9F\x98\x80+|\xE2\x82\xAC?", "((((a)|b)|c)|d)", "a{1001}[z-a]\\x{110000}(?P<n>)(?P<n>)", "x|y|(|)|", "[a-b-c]", "(?P<ab_9>x){12,345}?",
}

// P4.3: of what could stand, each beginning could; where something cannot, that is told whatever stands behind it.
func TestBeginnings(t *testing.T) {
	t.Parallel()
	for _, p := range wholes {
		for n := range len(p) + 1 {
			beginningsOf(t, p[:n])
			for _, b := range []byte{0, 'a', '(', ')', '[', ']', '{', '}', '?', '*', '\\', '-', 0x80, 0xC3, 0xFF} {
				beginningsOf(t, p[:n]+string([]byte{b})+p[n:])
			}
		}
	}
}

func beginningsOf(t *testing.T, p string) {
	t.Helper()
	fault := faultOf(t, p)
	if fault.Code != api.ErrSyntax {
		for n := range len(p) {
			of := faultOf(t, p[:n])
			if of.Code == api.ErrSyntax && of.At != n {
				t.Errorf("%q can stand, its beginning %q cannot: %v", p, p[:n], of)
			}
		}
		return
	}
	if fault.At < 0 || fault.At > len(p) {
		t.Fatalf("%q: %v", p, fault)
	}
	if ahead := faultOf(t, p[:fault.At]); ahead.Code == api.ErrSyntax && ahead.At != fault.At {
		t.Errorf("%q: %v, but ahead of it %v", p, fault, ahead)
	}
	if fault.At == len(p) {
		return
	}
	for _, more := range append(wholes, ")", "]", "}", ":)", ">)", "1}", "41}", "\x80", "\xBF\xBF", "\xFF", "\\", strings.Repeat("(", 300)) {
		if of := faultOf(t, p[:fault.At+1]+more); of != fault {
			t.Errorf("%q: %v, with %q behind its first %d bytes %v", p, fault, more, fault.At+1, of)
		}
	}
}

// P4.1 to P4.4, of any bytes: `go test -fuzz FuzzParse ./syntax` looks for more of them.
func FuzzParse(f *testing.F) {
	for _, p := range append(wholes, somewhere...) {
		f.Add(p)
	}
	f.Fuzz(func(t *testing.T, p string) {
		if len(p) > 200 {
			return
		}
		asGrammar(t, p)
		beginningsOf(t, p)
		if faultOf(t, p).Code == api.OK {
			wantTaken(t, p)
		}
	})
}
