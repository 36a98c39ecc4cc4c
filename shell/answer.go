package shell

import (
	"strconv"
	"strings"

	"heron/api"
)

// Where nothing was found.
const nothingFound = "none"

// answer is what was told so far. What is told is put into it piece by piece: a line can be of many millions of bytes.
type answer struct {
	out   strings.Builder
	begun bool // Something stands on the line at hand.
}

// told is all of it.
func (a *answer) told() string { return a.out.String() }

// end ends the line at hand.
func (a *answer) end() {
	a.out.WriteByte('\n')
	a.begun = false
}

// space puts a blank between what was told on the line and what comes.
func (a *answer) space() {
	if a.begun {
		a.out.WriteByte(' ')
	}
	a.begun = true
}

// tell tells a word.
func (a *answer) tell(text string) {
	a.space()
	a.out.WriteString(text)
}

// tellNumber tells a number.
func (a *answer) tellNumber(n int) {
	a.space()
	var room [20]byte
	a.out.Write(strconv.AppendInt(room[:0], int64(n), 10))
}

// tellNumbers tells numbers, or that there are none.
func (a *answer) tellNumbers(l []int) {
	if len(l) == 0 {
		a.tell(nothingFound)
	}
	for _, n := range l {
		a.tellNumber(n)
	}
}

// tellItems tells lists of numbers, or that there are none.
func (a *answer) tellItems(l [][]int) {
	if len(l) == 0 {
		a.tell(nothingFound)
	}
	for i, item := range l {
		if i > 0 {
			a.out.WriteByte(';')
		}
		a.tellNumbers(item)
	}
}

// tellQuoted tells bytes.
func (a *answer) tellQuoted(b []byte) {
	a.space()
	quote(&a.out, b)
}

// tellError tells an error.
func (a *answer) tellError(errno api.Errno) {
	a.tell("error")
	a.tellNumber(int(errno))
}

// tellFault tells what is wrong with a pattern.
func (a *answer) tellFault(fault api.Fault) {
	a.tell("fault")
	a.tellNumber(int(fault.Code))
	a.tell("at")
	a.tellNumber(fault.At)
}
