package replace

import (
	"slices"

	"heron/api"
)

// part of a template: a text of a byte or more, or a group, by its number.
type part struct {
	put   func(p part, out []byte, m match) []byte // puts there what it is, of a match
	text  string
	group int
}

// putText is for what stands for itself.
func (p part) putText(out []byte, _ match) []byte { return append(out, p.text...) }

// putGroup is for a group.
func (p part) putGroup(out []byte, m match) []byte { return append(out, m.group(p.group)...) }

// size tells how many bytes are put in the place of a match; if they are more than MaxText, it tells no more than that.
func (t *Template) size(m match) int {
	// A small machine's numbers could not hold how often a group stands there, times its bytes.
	size := int64(t.plain)
	for k, places := range t.groups {
		size += int64(len(m.group(k))) * int64(len(places))
	}
	return int(min(size, api.MaxText+1))
}

// put puts it behind other bytes, as it is of a match.
func (t *Template) put(out []byte, m match) []byte {
	for _, i := range t.telling(m) {
		p := t.parts[i]
		out = p.put(p, out, m)
	}
	return out
}

// telling are the parts of which there are any bytes, in their order. The others are not even looked at: a template can have millions of them, and so many matches there can be. This way, it takes little more than to write the bytes.
func (t *Template) telling(m match) []int {
	l := slices.Clone(t.texts)
	for k, places := range t.groups {
		if len(m.group(k)) > 0 {
			l = append(l, places...)
		}
	}
	slices.Sort(l)
	return l
}

// sizeOfAll tells how many bytes there are with it in the place of each match; if they are more than MaxText, it tells no more than that.
func (t *Template) sizeOfAll(b []byte, found [][]int) int {
	size := len(b)
	for _, caps := range found {
		size -= caps[1] - caps[0]
	}
	for _, caps := range found {
		size += t.size(match{text: b, caps: caps})
		if size > api.MaxText {
			break
		}
	}
	return size
}

// putAll puts bytes behind others, with it in the place of each match.
func (t *Template) putAll(out, b []byte, found [][]int) []byte {
	pieces := between(b, found)
	for i, caps := range found {
		out = append(out, pieces[i]...)
		out = t.put(out, match{text: b, caps: caps})
	}
	return append(out, pieces[len(found)]...)
}
