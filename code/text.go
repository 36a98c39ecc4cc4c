package code

import (
	"strconv"

	"heron/api"
)

// mostDigits is how many a number of a text may have.
const mostDigits = 9

// textWriter lays words down behind one another.
type textWriter struct{ text []byte }

func (w *textWriter) add(s string) { w.text = append(w.text, s...) }

// number lays one down behind another word.
func (w *textWriter) number(n int) {
	w.text = append(w.text, ' ')
	w.text = strconv.AppendInt(w.text, int64(n), 10)
}

// textOf is a program's text; of one that is too long, as much of it as shows that.
func textOf(p api.Program) []byte {
	var w textWriter
	w.add("caps")
	w.number(p.Caps)
	w.add(" start")
	w.number(p.Start)
	w.add("\n")
	for _, i := range p.Insts {
		if len(w.text) > api.MaxCodeText {
			break
		}
		w.add("  ")
		w.add(words[i.Op])
		layFields(i, w.number)
		w.add("\n")
	}
	return w.text
}

// textReader takes the words of a text one by one.
type textReader struct{ rest string }

// word takes the next word; an empty one: there is none.
func (r *textReader) word() string {
	from := 0
	for from < len(r.rest) && isBlank(r.rest[from]) {
		from++
	}
	to := from
	for to < len(r.rest) && !isBlank(r.rest[to]) {
		to++
	}
	word := r.rest[from:to]
	r.rest = r.rest[to:]
	return word
}

func isBlank(b byte) bool { return b == ' ' || b == '\t' || b == '\n' || b == '\r' }

// expect takes a word that must be that one.
func (r *textReader) expect(word string) {
	if r.word() != word {
		panic(broken{})
	}
}

// number takes a word that must be one.
func (r *textReader) number() int {
	word := r.word()
	if !isNumber(word) {
		panic(broken{})
	}
	n := 0
	for i := range len(word) {
		n = 10*n + int(word[i]-'0')
	}
	return n
}

func isNumber(word string) bool {
	if len(word) < 1 || len(word) > mostDigits || word[0] == '0' && len(word) > 1 {
		return false
	}
	for i := range len(word) {
		if word[i] < '0' || word[i] > '9' {
			return false
		}
	}
	return true
}

// ofText is the program that a text is.
func ofText(text string) api.Program {
	r := textReader{rest: text}
	var p api.Program
	r.expect("caps")
	p.Caps = r.number()
	r.expect("start")
	p.Start = r.number()
	for word := r.word(); word != ""; word = r.word() {
		// Not read to its end: a text of some bytes an instruction would ask for many times as much memory.
		if len(p.Insts) == api.MaxInsts {
			panic(broken{})
		}
		p.Insts = append(p.Insts, takeFields(opOf(word), r.number))
	}
	return mayBe(p)
}
