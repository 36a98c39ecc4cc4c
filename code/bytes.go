package code

import "heron/api"

const (
	head    = "HRPG"     // what a program's bytes begin with
	sumSize = 4          // so many bytes the sum has
	turn    = 0xEDB88320 // what the sum is turned by, when a one falls out
	more    = 0x80       // the bit of a number's bytes but the last one
)

// byteWriter lays numbers down behind one another.
type byteWriter struct{ bytes []byte }

func (w *byteWriter) number(n int) {
	for n >= more {
		w.bytes = append(w.bytes, byte(n)|more)
		n >>= 7
	}
	w.bytes = append(w.bytes, byte(n))
}

// bytesOf are a program's bytes; if they are too many, as many as show that.
func bytesOf(p api.Program) []byte {
	w := byteWriter{bytes: []byte(head)}
	w.number(p.Caps)
	w.number(p.Start)
	w.number(len(p.Insts))
	for _, i := range p.Insts {
		if len(w.bytes) > api.MaxCodeText {
			return w.bytes
		}
		w.bytes = append(w.bytes, byte(i.Op))
		layFields(i, w.number)
	}
	sum := sumOf(w.bytes)
	return append(w.bytes, sum[:]...)
}

// sumOf are the bytes of the sum of others.
func sumOf(b []byte) [sumSize]byte {
	sum := ^uint32(0)
	for _, x := range b {
		sum ^= uint32(x)
		for range 8 {
			// Times the bit that falls out: a condition that goes either way as often would take many times as long.
			sum = sum>>1 ^ turn*(sum&1)
		}
	}
	sum = ^sum
	return [sumSize]byte{byte(sum), byte(sum >> 8), byte(sum >> 16), byte(sum >> 24)}
}

// byteReader takes bytes one by one.
type byteReader struct{ rest []byte }

func (r *byteReader) next() byte {
	if len(r.rest) == 0 {
		panic(broken{})
	}
	b := r.rest[0]
	r.rest = r.rest[1:]
	return b
}

// number takes one; no number of a program is greater than MaxRune, so that more bytes than this one has are none's.
func (r *byteReader) number() int {
	n := 0
	for shift := 0; api.MaxRune>>shift > 0; shift += 7 {
		b := r.next()
		n |= int(b&^more) << shift
		if b >= more {
			continue
		}
		if b == 0 && shift > 0 {
			break // longer than it need be
		}
		return n
	}
	panic(broken{})
}

// inner are the bytes between the head and the sum, which must both be right.
func inner(b []byte) []byte {
	at := len(b) - sumSize
	if at < len(head) || string(b[:len(head)]) != head || sumOf(b[:at]) != [sumSize]byte(b[at:]) {
		panic(broken{})
	}
	return b[len(head):at]
}

// ofBytes is the program that bytes are.
func ofBytes(b []byte) api.Program {
	r := byteReader{rest: inner(b)}
	var p api.Program
	p.Caps = r.number()
	p.Start = r.number()
	count := r.number()
	// Ahead of making room: the bytes may claim any number.
	if count > api.MaxInsts {
		panic(broken{})
	}
	p.Insts = make([]api.Inst, count)
	for k := range p.Insts {
		p.Insts[k] = takeFields(int(r.next()), r.number)
	}
	if len(r.rest) > 0 {
		panic(broken{})
	}
	return mayBe(p)
}
