package code_test

import (
	"encoding/binary"
	"hash/crc32"
	"slices"
	"testing"

	"heron/api"
)

// TestSum: P10.3: the sum is the usual one, the lowest byte first, of all that stands ahead.
func TestSum(t *testing.T) {
	// By the chapter's rule, as it stands there.
	byRule := func(b []byte) uint32 {
		register := uint32(0xFFFFFFFF)
		for _, x := range b {
			register ^= uint32(x)
			for range 8 {
				one := register%2 == 1
				register /= 2
				if one {
					register ^= 0xEDB88320
				}
			}
		}
		return register ^ 0xFFFFFFFF
	}
	if byRule([]byte("123456789")) != 0xCBF43926 {
		t.Fatal("the rule is wrong")
	}
	for _, p := range some(t) {
		b := bytesOf(t, p)
		ahead, sum := b[:len(b)-4], binary.LittleEndian.Uint32(b[len(b)-4:])
		if sum != byRule(ahead) || sum != crc32.ChecksumIEEE(ahead) {
			t.Errorf("%s: the sum is %x; want %x", shown(p), sum, byRule(ahead))
		}
	}
	b := bytesOf(t, letter())
	ahead, sum := b[:len(b)-4], binary.LittleEndian.Uint32(b[len(b)-4:])
	for _, other := range []uint32{0, ^uint32(0), ^sum, sum + 1, sum ^ 1<<31, crc32.ChecksumIEEE(ahead[4:]), crc32.ChecksumIEEE(ahead[:len(ahead)-1]), crc32.ChecksumIEEE(append(slices.Clone(ahead), 0)), crc32.Checksum(ahead, crc32.MakeTable(crc32.Castagnoli))} {
		wantNoBytes(t, binary.LittleEndian.AppendUint32(slices.Clone(ahead), other))
	}
	wantNoBytes(t, binary.BigEndian.AppendUint32(slices.Clone(ahead), sum))
	wantNoBytes(t, ahead)
	for i := range 4 {
		wantNoBytes(t, b[:len(ahead)+i])
	}
}

// TestHead: P10.3: the first four bytes.
func TestHead(t *testing.T) {
	body := []byte{2, 0, 1, 5, 0}
	wantLoad(t, sealed(slices.Concat([]byte{72, 82, 80, 71}, body)), whole(2, match(0)), api.OK)
	for _, head := range [][]byte{nil, {72}, {72, 82, 80}, {82, 80, 71}, {72, 82, 80, 72}, {73, 82, 80, 71}, {72, 83, 80, 71}, {72, 82, 81, 71}, {71, 80, 82, 72}, {104, 114, 112, 103}, {0, 0, 0, 0}, {72, 82, 80, 71, 72, 82, 80, 71}, {0, 72, 82, 80, 71}, {72, 82, 80, 71, 0}} {
		wantNoBytes(t, sealed(slices.Concat(head, body)))
	}
	for size := range 9 {
		wantNoBytes(t, sealed([]byte{72, 82, 80, 71, 2, 0, 1, 5}[:size]))
		wantNoBytes(t, make([]byte, size))
	}
	// Too few for a head and a sum, though a head and four bytes can be made out that share one.
	wantNoBytes(t, []byte{72, 82, 80, 71, 72, 82, 80})
}

// longer are a number's bytes with so many more than it need have.
func longer(n uint64, more int) []byte {
	b := binary.AppendUvarint(nil, n)
	for range more {
		b[len(b)-1] |= 128
		b = append(b, 0)
	}
	return b
}

// TestNumbersLonger: P10.3: no number has more bytes than it need have, wherever it stands.
func TestNumbersLonger(t *testing.T) {
	for _, p := range []api.Program{letter(), base(), whole(2, ifRune(0, rangesOf(127, 128, 16383, 16384, 0x10000, api.MaxRune)...), match(0))} {
		head := []int{p.Caps, p.Start, len(p.Insts)}
		for more := range 12 {
			// Each number of the program in turn is the one that is longer.
			for turn := 0; ; turn++ {
				at := 0
				number := func(n int) []byte {
					at++
					if at-1 == turn {
						return longer(uint64(n), more)
					}
					return longer(uint64(n), 0)
				}
				var b []byte
				for _, n := range head {
					b = append(b, number(n)...)
				}
				for _, i := range p.Insts {
					b = append(b, byte(i.Op))
					for _, n := range modelFields(i) {
						b = append(b, number(n)...)
					}
				}
				if more == 0 || turn >= at {
					wantLoad(t, ofHead(b...), p, api.OK)
				} else {
					wantNoBytes(t, ofHead(b...))
				}
				if turn >= at {
					break
				}
			}
		}
	}
}

// TestNumbersFar: P10.3: numbers that are too great for any program, such too that are a right one again in a kind that is too narrow.
func TestNumbersFar(t *testing.T) {
	body := func(caps, start, count, arg []byte) []byte {
		return ofHead(slices.Concat(caps, start, count, []byte{5}, arg)...)
	}
	right := []uint64{2, 0, 1, 7}
	for at := range right {
		for _, far := range []uint64{1 << 7, 1 << 8, 1 << 14, 1 << 16, 1 << 20, 1 << 21, 1 << 28, 1 << 31, 1 << 32, 1 << 35, 1 << 42, 1 << 49, 1 << 56, 1 << 63, 1<<64 - 1, 1<<21 - 1, 1<<32 - 1, 1<<63 - 1} {
			for _, n := range []uint64{far, far + right[at]} {
				// A few are right after all, and one goes round.
				if n < far || n == right[at] || at == 0 && n <= 1002 {
					continue
				}
				l := [][]byte{{2}, {0}, {1}, {7}}
				l[at] = binary.AppendUvarint(nil, n)
				wantNoBytes(t, body(l[0], l[1], l[2], l[3]))
			}
		}
		for size := range 40 {
			for _, last := range []byte{0, 1, 2, 127} {
				l := [][]byte{{2}, {0}, {1}, {7}}
				l[at] = append(many(size, byte(128|right[at])), last)
				if size > 0 && !(at == 0 && size == 1 && last > 0) {
					wantNoBytes(t, body(l[0], l[1], l[2], l[3]))
				}
			}
		}
	}
	wantLoad(t, body([]byte{2}, []byte{0}, []byte{1}, []byte{7}), whole(2, match(7)), api.OK)
	wantLoad(t, body([]byte{130, 1}, []byte{0}, []byte{1}, []byte{7}), whole(130, match(7)), api.OK)
	wantNoBytes(t, body(many(9, byte(255)), []byte{1}, nil, nil))
	wantNoBytes(t, body(many(200, byte(128)), nil, nil, nil))
}

// TestOps: P10.3: every byte as an operation, with as many fields as any has.
func TestOps(t *testing.T) {
	for op := range 256 {
		taken := 0
		for fields := range 6 {
			b := ofHead(slices.Concat([]byte{2, 0, 1, byte(op)}, []byte{0, 1, 0, 0, 0}[:fields])...)
			want, ok := modelLoad(b)
			if ok {
				taken++
				wantLoad(t, b, want, api.OK)
			} else {
				wantNoBytes(t, b)
			}
		}
		if may := 1 <= op && op <= 7; op != api.OpAlt && op != api.OpAssert && op != api.OpCap && may != (taken == 1) {
			t.Errorf("%d was taken %d times", op, taken)
		}
	}
	for _, op := range []int{0, 8, 9, 128, 129, 135, 255} {
		wantNoBytes(t, ofHead(2, 0, 1, byte(op)))
		wantNoBytes(t, ofHead(2, 0, 1, byte(op), 0))
		wantNoBytes(t, ofHead(2, 0, 1, byte(op), 0, 0))
		wantNoBytes(t, ofHead(2, 0, 1, byte(op), 1, 5, 0))
	}
}

// TestBytesCut: P10.3, P10.6: bytes that end too early, at each place: as they are, and with the right sum behind them; others put behind, ahead of the sum too.
func TestBytesCut(t *testing.T) {
	for _, p := range []api.Program{letter(), base(), whole(2, match(0)), ofPattern(t, `(?:(a??)(b??))+c|[^x-z]`)} {
		b := modelBytes(p)
		wantLoad(t, b, p, api.OK)
		for i := range b {
			wantNoBytes(t, b[:i])
			wantNoBytes(t, b[i+1:])
			if i < len(b)-4 {
				wantNoBytes(t, sealed(b[:i]))
			}
		}
		ahead := b[:len(b)-4]
		for x := range 256 {
			wantNoBytes(t, append(slices.Clone(b), byte(x)))
			wantNoBytes(t, sealed(append(slices.Clone(ahead), byte(x))))
			wantNoBytes(t, append([]byte{byte(x)}, b...))
		}
		for _, behind := range [][]byte{{0, 0, 0, 0}, b, b[len(b)-4:], ahead, make([]byte, 1000), {6}, {5, 0}, {7, 0, 7, 0}} {
			wantNoBytes(t, slices.Concat(b, behind))
			wantNoBytes(t, sealed(slices.Concat(ahead, behind)))
			wantNoBytes(t, sealed(slices.Concat(b, behind)))
		}
	}
}

// TestCounts: P10.3: a count of instructions or ranges that is not how many there are.
func TestCounts(t *testing.T) {
	for count := range 8 {
		want, errno := whole(2, match(0), fail(), goOn(0)), api.OK
		if count != 3 {
			want, errno = api.Program{}, api.ErrCodeBytes
		}
		wantLoad(t, ofHead(2, 0, byte(count), 5, 0, 6, 7, 0), want, errno)
		want, errno = whole(2, ifRune(0, rangesOf('a', 'a', 'c', 'c', 'e', 'e')...)), api.OK
		if count != 3 {
			want, errno = api.Program{}, api.ErrCodeBytes
		}
		wantLoad(t, ofHead(2, 0, 1, 1, 0, byte(count), 97, 97, 99, 99, 101, 101), want, errno)
	}
	// Ranges that could be instructions, and the other way about.
	wantLoad(t, ofHead(2, 0, 2, 1, 0, 1, 5, 6, 6), whole(2, ifRune(0, rangesOf(5, 6)...), fail()), api.OK)
	wantNoBytes(t, ofHead(2, 0, 3, 1, 0, 1, 5, 6, 6))
}

// TestBytesTurned: P10.6: each byte turned to each other one; P10.3: the same with the right sum, where the model may take it.
func TestBytesTurned(t *testing.T) {
	taken := 0
	for _, p := range []api.Program{letter(), base(), whole(2, match(0)), ofPattern(t, `(a|b)*$`)} {
		b := modelBytes(p)
		for i := range b {
			for x := range 256 {
				turned := slices.Clone(b)
				turned[i] = byte(x)
				if turned[i] != b[i] {
					wantNoBytes(t, turned)
				}
				again := sealed(turned[:len(b)-4])
				want, ok := modelLoad(again)
				if !ok {
					wantNoBytes(t, again)
					continue
				}
				taken++
				wantLoad(t, again, want, api.OK)
				wantBytes(t, want, again, api.OK)
			}
		}
	}
	if taken < 3000 {
		t.Errorf("%d were taken: too few", taken)
	}
}

// TestGreatBytesTurned: P10.6: in many bytes too, one turned here or there.
func TestGreatBytesTurned(t *testing.T) {
	b := modelBytes(great())
	wantLoad(t, b, great(), api.OK)
	for i := 0; i < len(b); i += 1 + len(b)/150 {
		for _, x := range []byte{1, 128, 255} {
			b[i] ^= x
			wantNoBytes(t, b)
			b[i] ^= x
		}
		wantNoBytes(t, b[:i])
	}
}
