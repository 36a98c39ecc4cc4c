package replace

// match is bytes, and the captures of what was found in them.
type match struct {
	text []byte
	caps []int
}

// mayBe tells whether each two captures are set both, to a beginning and an end in the bytes, or neither.
func (m match) mayBe() bool {
	for k := range len(m.caps) / 2 {
		begin, end := m.caps[2*k], m.caps[2*k+1]
		isSet := 0 <= begin && begin <= end && end <= len(m.text)
		if !isSet && (begin != -1 || end != -1) {
			return false
		}
	}
	return true
}

// group are the bytes of a group; none, if it was not met.
func (m match) group(k int) []byte {
	begin, end := m.caps[2*k], m.caps[2*k+1]
	if begin < 0 {
		return nil
	}
	return m.text[begin:end]
}

// between are the pieces of bytes ahead of, between and behind what was found in them. They lie in the memory of these bytes.
func between(b []byte, found [][]int) [][]byte {
	pieces := make([][]byte, 0, len(found)+1)
	at := 0
	for _, caps := range found {
		pieces = append(pieces, b[at:caps[0]])
		at = caps[1]
	}
	return append(pieces, b[at:])
}
