package code_test

import (
	"math/rand"
	"slices"
	"strings"
	"testing"

	"heron/api"
	"heron/code"
	"heron/prog"
)

// grower makes programs, texts and bytes by chance.
type grower struct{ *rand.Rand }

// number is one from 0 on and below count, rather small, or rather great.
func (g *grower) number(count int) int {
	switch g.Intn(4) {
	case 0:
		return g.Intn(min(count, 3))
	case 1:
		return count - 1 - g.Intn(min(count, 3))
	case 2:
		return g.Intn(min(count, 300))
	}
	return g.Intn(count)
}

// class is one of a few ranges, of a byte or of several.
func (g *grower) class() []api.Range {
	var l []api.Range
	step := []int{3, 40, 3000, 60000}[g.Intn(4)]
	for at := g.number(api.MaxRune); len(l) < 6 && at <= api.MaxRune; {
		to := min(at+g.Intn(step), api.MaxRune)
		if (to < 0xD800 || at > 0xDFFF) && g.Intn(3) > 0 {
			l = append(l, api.Range{Lo: at, Hi: to})
		}
		at = to + 2 + g.Intn(step)
	}
	if len(l) == 0 {
		return rangesOf('a', 'a')
	}
	return l
}

// program is one that may be, of at most so many instructions.
func (g *grower) program(most int) api.Program {
	count := 1 + g.Intn(most)
	p := api.Program{Start: g.number(count), Caps: 2 + 2*g.number(api.MaxGroups+1)}
	for range count {
		x, y := g.number(count), g.number(count)
		i := []api.Inst{
			ifRune(x, g.class()...), ifRune(x, g.class()...), either(x, y), note(g.number(p.Caps), x), ifHolds(1<<g.Intn(6), x), match(g.number(api.MaxSet)), fail(), goOn(x),
		}[g.Intn(8)]
		p.Insts = append(p.Insts, i)
	}
	return p
}

// spread is a text with other blanks between its words.
func (g *grower) spread(text string) string {
	var s strings.Builder
	blanks := func(least int) {
		for range least + g.Intn(3) {
			s.WriteByte(" \t\n\r"[g.Intn(4)])
		}
	}
	blanks(0)
	for i, w := range strings.Fields(text) {
		if i > 0 {
			blanks(1)
		}
		s.WriteString(w)
	}
	blanks(0)
	return s.String()
}

// spoiledWords are words of which one or two have changed, have gone, or stand twice.
func (g *grower) spoiledWords(words []string) []string {
	words = slices.Clone(words)
	for range 1 + g.Intn(4)/3 {
		i := g.Intn(len(words))
		other := []string{"0", "1", "2", "00", "01", "7", "99", "100", "55296", "1114111", "1114112", "caps", "start", "rune", "alt", "cap", "assert", "match", "fail", "nop", "x", "-1", "+1", "999999999", "4294967296"}[g.Intn(25)]
		switch g.Intn(5) {
		case 0:
			words = slices.Delete(words, i, i+1)
		case 1:
			words = slices.Insert(words, i, other)
		case 2:
			words = slices.Insert(words, i, words[i])
		default:
			words[i] = other
		}
	}
	return words
}

// spoiledBytes are bytes of which one or two have changed, have gone, or came.
func (g *grower) spoiledBytes(b []byte) []byte {
	b = slices.Clone(b)
	for range 1 + g.Intn(4)/3 {
		i := g.Intn(len(b))
		other := []byte{0, 1, 2, 3, 4, 5, 6, 7, 8, 97, 127, 128, 129, 255, b[i] ^ 128, byte(g.Intn(256))}[g.Intn(16)]
		switch g.Intn(5) {
		case 0:
			b = slices.Delete(b, i, i+1)
		case 1:
			b = slices.Insert(b, i, other)
		case 2:
			b = slices.Insert(b, i, b[i]|128)
		default:
			b[i] = other
		}
	}
	return b
}

// TestMadePrograms: P10.1, P10.2, P10.3, P10.5: programs made by chance, against the model, and there and back.
func TestMadePrograms(t *testing.T) {
	g := &grower{rand.New(rand.NewSource(10))}
	for range 2500 {
		p := g.program(1 + g.Intn(300))
		if prog.Check(p) != api.OK {
			t.Fatalf("%s may not be", shown(p))
		}
		text := modelText(p)
		wantPrint(t, p, text, api.OK)
		wantBytes(t, p, modelBytes(p), api.OK)
		wantThereAndBack(t, p)
		wantRead(t, g.spread(text), p, api.OK)
	}
}

// TestMadeTexts: P10.2, P10.5: texts that are one's, or nearly, against the model.
func TestMadeTexts(t *testing.T) {
	g := &grower{rand.New(rand.NewSource(102))}
	taken := 0
	for range 60000 {
		words := g.spoiledWords(strings.Fields(modelText(g.program(4))))
		text := g.spread(strings.Join(words, " "))
		want, ok := modelRead(text)
		if !ok {
			wantNoText(t, text)
			continue
		}
		taken++
		wantRead(t, text, want, api.OK)
		wantPrint(t, want, modelText(want), api.OK)
	}
	if taken < 1500 || taken > 40000 {
		t.Errorf("%d were taken: too few, or too many", taken)
	}
}

// TestMadeBytes: P10.3, P10.5, P10.6: bytes that are one's, or nearly, with a right sum or without, against the model.
func TestMadeBytes(t *testing.T) {
	g := &grower{rand.New(rand.NewSource(103))}
	taken := 0
	for range 60000 {
		b := modelBytes(g.program(4))
		if spoiled := g.spoiledBytes(b); !slices.Equal(spoiled, b) {
			wantLoadOfModel(t, spoiled)
		}
		b = sealed(g.spoiledBytes(b[:len(b)-4]))
		if wantLoadOfModel(t, b) {
			taken++
		}
	}
	if taken < 1500 || taken > 40000 {
		t.Errorf("%d were taken: too few, or too many", taken)
	}
}

// wantLoadOfModel fails, if Load does not answer what the model does; it tells whether the bytes are taken.
func wantLoadOfModel(t *testing.T, b []byte) bool {
	t.Helper()
	want, ok := modelLoad(b)
	if !ok {
		wantNoBytes(t, b)
		return false
	}
	wantLoad(t, b, want, api.OK)
	wantBytes(t, want, b, api.OK)
	return true
}

// TestMadeWrong: P10.6: bytes that Load takes, one of them turned, some cut off, others put behind.
func TestMadeWrong(t *testing.T) {
	g := &grower{rand.New(rand.NewSource(106))}
	for range 2000 {
		b := bytesOf(t, g.program(20))
		for range 20 {
			turned := slices.Clone(b)
			turned[g.Intn(len(b))] ^= byte(1 + g.Intn(255))
			wantNoBytes(t, turned)
			wantNoBytes(t, b[:g.Intn(len(b))])
			behind := make([]byte, 1+g.Intn(10))
			g.Read(behind)
			wantNoBytes(t, append(b, behind...))
		}
	}
}

// FuzzRead holds ever more texts against the model.
func FuzzRead(f *testing.F) {
	for _, x := range examples() {
		f.Add(x.text)
	}
	for _, text := range noTexts() {
		f.Add(text)
	}
	f.Add(modelText(base()))
	f.Fuzz(func(t *testing.T, text string) {
		if len(text) > 100000 {
			return
		}
		want, ok := modelRead(text)
		if !ok {
			wantNoText(t, text)
			return
		}
		wantRead(t, text, want, api.OK)
		wantThereAndBack(t, want)
	})
}

// FuzzLoad holds ever more bytes against the model: as they are, and as what stands between the first four and the sum.
func FuzzLoad(f *testing.F) {
	for _, x := range examples() {
		f.Add(x.bytes[4:])
		f.Add(sealed(x.bytes))
	}
	f.Add(modelBytes(base())[4:])
	f.Fuzz(func(t *testing.T, b []byte) {
		if len(b) > 2000 {
			return
		}
		wantLoadOfModel(t, b)
		if wantLoadOfModel(t, ofHead(b...)) {
			p, _ := code.Load(ofHead(b...))
			wantThereAndBack(t, p)
		}
	})
}
