package code_test

import (
	"bytes"
	"encoding/binary"
	"fmt"
	"hash/crc32"
	"math/big"
	"slices"
	"strconv"
	"strings"
	"testing"

	"heron/api"
	"heron/prog"
)

// The slow model: what the chapter's words say, written down another way. What is a program's text is told by its words, which must be those of the only program that it could be; what are its bytes, likewise.

// modelWords are the operations' words.
func modelWords() []string {
	return []string{"", "rune", "alt", "cap", "assert", "match", "fail", "nop"}
}

// modelFields are the numbers of an instruction's fields, as the chapter's table has them.
func modelFields(i api.Inst) []int {
	switch i.Op {
	case api.OpRune:
		l := []int{i.X, len(i.Ranges)}
		for _, r := range i.Ranges {
			l = append(l, r.Lo, r.Hi)
		}
		return l
	case api.OpAlt:
		return []int{i.X, i.Y}
	case api.OpCap, api.OpAssert:
		return []int{i.Arg, i.X}
	case api.OpMatch:
		return []int{i.Arg}
	case api.OpNop:
		return []int{i.X}
	}
	return nil
}

// modelText is the text of a program that may be.
func modelText(p api.Program) string {
	lines := []string{fmt.Sprintf("caps %d start %d\n", p.Caps, p.Start)}
	for _, i := range p.Insts {
		line := []string{" ", modelWords()[i.Op]}
		for _, n := range modelFields(i) {
			line = append(line, strconv.Itoa(n))
		}
		lines = append(lines, strings.Join(line, " ")+"\n")
	}
	return strings.Join(lines, "")
}

// modelBytes are the bytes of a program that may be.
func modelBytes(p api.Program) []byte {
	b := []byte("HRPG")
	for _, n := range []int{p.Caps, p.Start, len(p.Insts)} {
		b = binary.AppendUvarint(b, uint64(n))
	}
	for _, i := range p.Insts {
		b = append(b, byte(i.Op))
		for _, n := range modelFields(i) {
			b = binary.AppendUvarint(b, uint64(n))
		}
	}
	return binary.LittleEndian.AppendUint32(b, crc32.ChecksumIEEE(b))
}

// instOf is the instruction of an operation that has the numbers at the beginning of a list, and how many these are; -1: there is none.
func instOf(op int, l []int) (api.Inst, int) {
	at := func(i int) int {
		if i < len(l) {
			return l[i]
		}
		return -1
	}
	switch op {
	case api.OpRune:
		i, count := api.Inst{Op: op, X: at(0)}, at(1)
		if count < 0 || count > len(l) || 2+2*count > len(l) {
			return api.Inst{}, -1
		}
		i.Ranges = rangesOf(l[2 : 2+2*count]...)
		return i, 2 + 2*count
	case api.OpAlt:
		return api.Inst{Op: op, X: at(0), Y: at(1)}, 2
	case api.OpCap, api.OpAssert:
		return api.Inst{Op: op, Arg: at(0), X: at(1)}, 2
	case api.OpMatch:
		return api.Inst{Op: op, Arg: at(0)}, 1
	case api.OpFail:
		return api.Inst{Op: op}, 0
	case api.OpNop:
		return api.Inst{Op: op, X: at(0)}, 1
	}
	return api.Inst{}, -1
}

// wordsOf are the words of a text.
func wordsOf(text string) []string {
	return strings.FieldsFunc(text, func(r rune) bool { return r == 32 || r == 9 || r == 10 || r == 13 })
}

// numbersOf are the numbers at the beginning of a list of words, whatever their digits.
func numbersOf(words []string) []int {
	var l []int
	for _, w := range words {
		n, ok := new(big.Int).SetString(w, 10)
		if !ok || n.Sign() < 0 || n.BitLen() > 30 {
			break
		}
		l = append(l, int(n.Int64()))
	}
	return l
}

// modelRead tells which program a text is; false: none.
func modelRead(text string) (api.Program, bool) {
	words := wordsOf(text)
	if len(words) < 5 || words[0] != "caps" || words[2] != "start" {
		return api.Program{}, false
	}
	numbers := append(numbersOf(words[1:2]), numbersOf(words[3:4])...)
	if len(numbers) != 2 {
		return api.Program{}, false
	}
	p := api.Program{Caps: numbers[0], Start: numbers[1]}
	for rest := words[4:]; len(rest) > 0; {
		i, taken := instOf(slices.Index(modelWords(), rest[0]), numbersOf(rest[1:]))
		if taken < 0 || 1+taken > len(rest) {
			return api.Program{}, false
		}
		p.Insts = append(p.Insts, i)
		rest = rest[1+taken:]
	}
	if prog.Check(p) != api.OK || !slices.Equal(wordsOf(modelText(p)), words) {
		return api.Program{}, false
	}
	return p, true
}

// uvarints are the numbers at the beginning of bytes, and how many bytes each has.
func uvarints(b []byte) (numbers, sizes []int) {
	for len(b) > 0 {
		n, size := binary.Uvarint(b)
		if size <= 0 || n >= 1<<30 {
			break
		}
		numbers, sizes, b = append(numbers, int(n)), append(sizes, size), b[size:]
	}
	return numbers, sizes
}

// sumOfInts is how much some numbers are together.
func sumOfInts(l []int) int {
	sum := 0
	for _, n := range l {
		sum += n
	}
	return sum
}

// modelLoad tells which program bytes are; false: none.
func modelLoad(b []byte) (api.Program, bool) {
	if len(b) < 8 {
		return api.Program{}, false
	}
	rest := b[4 : len(b)-4]
	numbers, sizes := uvarints(rest)
	if len(numbers) < 3 {
		return api.Program{}, false
	}
	p, count := api.Program{Caps: numbers[0], Start: numbers[1]}, numbers[2]
	rest = rest[sumOfInts(sizes[:3]):]
	for range min(count, len(rest)) {
		if len(rest) == 0 {
			return api.Program{}, false
		}
		numbers, sizes := uvarints(rest[1:])
		i, taken := instOf(int(rest[0]), numbers)
		if taken < 0 || taken > len(numbers) {
			return api.Program{}, false
		}
		p.Insts = append(p.Insts, i)
		rest = rest[1+sumOfInts(sizes[:taken]):]
	}
	if prog.Check(p) != api.OK || !bytes.Equal(modelBytes(p), b) {
		return api.Program{}, false
	}
	return p, true
}

// TestModel: the model says what the chapter's examples say.
func TestModel(t *testing.T) {
	for _, x := range examples() {
		if text := modelText(x.program); text != x.text {
			t.Errorf("%q; want %q", text, x.text)
		}
		if b := modelBytes(x.program); !bytes.Equal(b[:len(b)-4], x.bytes) || !bytes.Equal(b, sealed(x.bytes)) {
			t.Errorf("%d; want %d", b, x.bytes)
		}
		if p, ok := modelRead(x.text); !ok || !same(p, x.program) {
			t.Errorf("%q: %s, %v", x.text, shown(p), ok)
		}
		if p, ok := modelLoad(sealed(x.bytes)); !ok || !same(p, x.program) {
			t.Errorf("%d: %s, %v", x.bytes, shown(p), ok)
		}
	}
	for _, text := range noTexts() {
		if _, ok := modelRead(text); ok {
			t.Errorf("%q is read", text)
		}
	}
	for _, b := range [][]byte{nil, {72, 82, 80, 71}, append(sealed(examples()[0].bytes), 0)} {
		if _, ok := modelLoad(b); ok {
			t.Errorf("%d is loaded", b)
		}
	}
}
