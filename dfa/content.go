package dfa

// content is what one state has that no other one has: in the first byte the kind of the rune ahead, and whether the search begins at each place still; then the row, two bytes an instruction, for there are fewer than 65536.
type content string

// The first byte of a content whose search begins at each place still is the kind and this.
const stillBegins = kinds

// appendContent puts a content's bytes behind others.
func appendContent(b []byte, kind int, begins bool, row []int) []byte {
	if begins {
		kind += stillBegins
	}
	b = append(b, byte(kind))
	for _, inst := range row {
		b = append(b, byte(inst>>8), byte(inst))
	}
	return b
}

// begins tells whether the search begins at each place still.
func (c content) begins() bool { return c[0] >= stillBegins }

// each hands on the row's instructions, in their order, up to one that is answered by false; it tells whether none was.
func (c content) each(visit func(inst int) bool) bool {
	for i := 1; i < len(c); i += 2 {
		if !visit(int(c[i])<<8 | int(c[i+1])) {
			return false
		}
	}
	return true
}
