package printer

import (
	"strconv"
	"strings"

	"heron/api"
)

// The bytes that stand for themselves: no blank, and none that cannot be seen.
const (
	firstPlain = '!'
	lastPlain  = '~'
)

// The bytes that mean something else, if no `\` stands ahead of them: outside of a class, and within one.
const (
	special        = `\.+*?()|[]{}^$`
	specialInClass = `\[]^-`
)

// The class without ranges. The grammar wants an item in each class, so it is what is left of all runes.
const noRune = `[^\x{0}-\x{10FFFF}]`

// writer takes a pattern, piece by piece, as long as it is not too long.
type writer struct {
	text []byte
	over bool
}

func (w *writer) write(s string) {
	if len(w.text)+len(s) > api.MaxPattern {
		w.over = true
		return
	}
	w.text = append(w.text, s...)
}

// writeRune writes a rune, with a `\` ahead of it, if it is one of escaped.
func (w *writer) writeRune(r int, escaped string) {
	if r < firstPlain || r > lastPlain {
		w.write(`\x{` + strings.ToUpper(strconv.FormatInt(int64(r), 16)) + "}")
		return
	}
	if strings.IndexByte(escaped, byte(r)) >= 0 {
		w.write(`\`)
	}
	w.write(string(rune(r)))
}

// writeBelow writes a node that stands right below a part.
func (w *writer) writeBelow(above part, n api.Node) {
	if w.over {
		// The pattern is refused, whatever comes: what is left of a great tree need not be gone through.
		return
	}
	below := partOf(n)
	if !inBrackets(above, below) {
		below.writeTo(w)
		return
	}
	w.write("(?:")
	below.writeTo(w)
	w.write(")")
}
