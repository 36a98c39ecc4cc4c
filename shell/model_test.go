package shell_test

import (
	"fmt"
	"regexp"
	"strconv"
	"strings"
	"testing"

	"heron/api"
	"heron/many"
	"heron/regex"
	"heron/replace"
	"heron/shell"
)

// The chapter's words, slowly: what lines there are is told by Go's own regular expressions, line by line of the table, and what they tell by the layers below.

// model is what was given so far.
type model struct {
	patterns map[string]*regex.Regex
	texts    map[string]string
}

// form is a line of the table, and what is told of its pieces.
type form struct {
	line *regexp.Regexp
	tell func(m model, pieces []string) string
}

// formOf is that of a line in which NAME stands for a word, N for a number, REST for a rest, and WORDS for one word or more.
func formOf(line string, tell func(m model, pieces []string) string) form {
	line = strings.ReplaceAll(line, ` REST`, `(?:[ \t](.*))?`)
	line = strings.ReplaceAll(line, ` WORDS`, `((?:[ \t]+[^ \t]+)+)[ \t]*`)
	line = strings.ReplaceAll(line, ` NAME`, `[ \t]+([^ \t]+)`)
	line = strings.ReplaceAll(line, ` N`, `[ \t]+(-?[0-9]{1,9})[ \t]*`)
	line = strings.ReplaceAll(line, ` END`, `[ \t]*`)
	return form{regexp.MustCompile(`^(?s:[ \t]*` + line + `)$`), tell}
}

// forms are all of them.
var forms = []form{
	formOf(`pattern NAME REST`, model.pattern),
	formOf(`text NAME REST`, model.text),
	formOf(`engine NAME N`, model.engine),
	formOf(`groups NAME END`, model.groups),
	formOf(`(match|find|submatch) NAME NAME END`, model.search),
	formOf(`all NAME NAME N`, model.all),
	formOf(`replace NAME NAME REST`, model.replace),
	formOf(`split NAME NAME N`, model.split),
	formOf(`(which|first) NAME WORDS`, model.set),
}

var (
	lowByte = regexp.MustCompile(`[\x00-\x08\x0a-\x1f]`)
	nothing = regexp.MustCompile(`^(?s:[ \t]*(?:#.*)?)$`)
	quotes  = regexp.MustCompile(`^(?s:[^\\]|\\\\|\\n|\\t|\\x[0-9a-f]{2})*$`)
	escapes = regexp.MustCompile(`\\(?:\\|n|t|x..)`)
)

const notOne = "error 200"

// modelOf is what a text tells.
func modelOf(text string) string {
	if len(text) > api.MaxLine {
		return "error 2\n"
	}
	m := model{map[string]*regex.Regex{}, map[string]string{}}
	var told strings.Builder
	for line := range strings.SplitSeq(text, "\n") {
		if lowByte.MatchString(line) || !nothing.MatchString(line) {
			told.WriteString(m.line(line) + "\n")
		}
	}
	return told.String()
}

// line is what a line tells that tells anything.
func (m model) line(line string) string {
	if lowByte.MatchString(line) {
		return notOne
	}
	for _, f := range forms {
		if pieces := f.line.FindStringSubmatch(line); pieces != nil {
			return f.tell(m, pieces[1:])
		}
	}
	return notOne
}

// toldOr is what is told, or the error.
func toldOr(told string, errno api.Errno) string {
	if errno != api.OK {
		return fmt.Sprintf("error %d", errno)
	}
	return told
}

// orNone is what is told, or that there is nothing.
func orNone(told string) string {
	if told == "" {
		return "none"
	}
	return told
}

// joined are numbers with blanks between.
func joined(l []int) string { return strings.Trim(fmt.Sprint(l), "[]") }

// quotedModel are bytes as they are told.
func quotedModel(text string) string {
	var l strings.Builder
	for i := range len(text) {
		switch c := text[i]; {
		case c == '\\' || c == '\n' || c == '\t':
			l.WriteString(`\` + map[byte]string{'\\': `\`, '\n': `n`, '\t': `t`}[c])
		case c < 32 || c > 126 || c == '"':
			fmt.Fprintf(&l, `\x%02x`, c)
		default:
			l.WriteByte(c)
		}
	}
	return `"` + l.String() + `"`
}

// unquotedModel is what quoted bytes stand for; false: they are none.
func unquotedModel(text string) (string, bool) {
	if !quotes.MatchString(text) {
		return "", false
	}
	return escapes.ReplaceAllStringFunc(text, func(one string) string {
		switch one[1] {
		case 'n':
			return "\n"
		case 't':
			return "\t"
		case '\\':
			return `\`
		}
		c, _ := strconv.ParseUint(one[2:], 16, 8)
		return string([]byte{byte(c)})
	}), true
}

func (m model) pattern(pieces []string) string {
	r, err := regex.Compile(pieces[1])
	if f, _ := api.Seen(err); err != nil {
		return fmt.Sprintf("fault %d at %d", f.Code, f.At)
	}
	m.patterns[pieces[0]] = r
	return "ok"
}

func (m model) text(pieces []string) string {
	text, is := unquotedModel(pieces[1])
	if !is {
		return notOne
	}
	m.texts[pieces[0]] = text
	return "ok"
}

func (m model) engine(pieces []string) string {
	r := m.patterns[pieces[0]]
	if r == nil {
		return notOne
	}
	n, _ := strconv.Atoi(pieces[1])
	other, errno := r.With(n)
	if errno == api.OK {
		m.patterns[pieces[0]] = other
	}
	return toldOr("ok", errno)
}

func (m model) groups(pieces []string) string {
	r := m.patterns[pieces[0]]
	if r == nil {
		return notOne
	}
	told := strconv.Itoa(r.Groups())
	for _, name := range r.Names() {
		told += " " + strings.ReplaceAll("<"+name+">", "<>", "<->")
	}
	return strings.NewReplacer("<", "", ">", "").Replace(told)
}

// both are the pattern and the text of two names; false: one was not given.
func (m model) both(pattern, text string) (*regex.Regex, []byte, bool) {
	r := m.patterns[pattern]
	s, is := m.texts[text]
	return r, []byte(s), is && r != nil
}

func (m model) search(pieces []string) string {
	r, b, is := m.both(pieces[1], pieces[2])
	if !is {
		return notOne
	}
	switch pieces[0] {
	case "find":
		l, errno := r.Find(b)
		return toldOr(orNone(joined(l)), errno)
	case "submatch":
		l, errno := r.Submatch(b)
		return toldOr(orNone(joined(l)), errno)
	}
	fits, errno := r.Match(b)
	return toldOr(map[bool]string{true: "yes", false: "no"}[fits], errno)
}

func (m model) all(pieces []string) string {
	r, b, is := m.both(pieces[0], pieces[1])
	if !is {
		return notOne
	}
	n, _ := strconv.Atoi(pieces[2])
	l, errno := r.All(b, n)
	var told []string
	for _, item := range l {
		told = append(told, joined(item))
	}
	return toldOr(orNone(strings.Join(told, "; ")), errno)
}

func (m model) replace(pieces []string) string {
	r, b, is := m.both(pieces[0], pieces[1])
	if !is {
		return notOne
	}
	got, errno := replace.All(r, b, pieces[2])
	return toldOr(quotedModel(string(got)), errno)
}

func (m model) split(pieces []string) string {
	r, b, is := m.both(pieces[0], pieces[1])
	if !is {
		return notOne
	}
	n, _ := strconv.Atoi(pieces[2])
	l, errno := replace.Split(r, b, n)
	told := []string{strconv.Itoa(len(l))}
	for _, piece := range l {
		told = append(told, quotedModel(string(piece)))
	}
	return toldOr(strings.Join(told, " "), errno)
}

func (m model) set(pieces []string) string {
	text, is := m.texts[pieces[1]]
	var l []string
	for name := range strings.FieldsFuncSeq(pieces[2], func(r rune) bool { return r == ' ' || r == '\t' }) {
		r := m.patterns[name]
		if r == nil {
			return notOne
		}
		l = append(l, r.Pattern())
	}
	if !is {
		return notOne
	}
	set, _, err := many.Compile(l)
	if f, _ := api.Seen(err); err != nil {
		return toldOr("", f.Code)
	}
	if pieces[0] == "which" {
		all, errno := set.Matches([]byte(text))
		return toldOr(orNone(joined(all)), errno)
	}
	which, caps, errno := set.First([]byte(text))
	if which < 0 {
		return "none"
	}
	return toldOr(joined(append([]int{which}, caps...)), errno)
}

// wantModel fails, if a text is not answered as the model says; it tells the answer.
func wantModel(t testing.TB, text string) string {
	t.Helper()
	want := modelOf(text)
	wantTold(t, text, want)
	return want
}

// TestModel: the model says of the chapter's examples what the chapter says.
func TestModel(t *testing.T) {
	for _, x := range examples() {
		if got, want := modelOf(slashed(x[0])), slashed(x[1]); got != want {
			t.Errorf("%q: %q; want %q", x[0], got, want)
		}
	}
	for _, x := range rows() {
		if got, want := modelOf(given()+x.words), shell.Do(given())+x.want+"\n"; got != want {
			t.Errorf("%q: %q; want %q", x.words, got, want)
		}
	}
}
