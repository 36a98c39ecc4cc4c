package shell

// word of a line, and the rest behind it.
type word struct{ text, rest string }

// wordsOf are the words of a line; false: it has a byte that may stand in none.
func wordsOf(line string) ([]word, bool) {
	var words []word
	begin := -1 // of the word at hand; -1: there is none
	// Bytes that are no UTF-8 come as runes that are none of those told apart here, each at its own offset: so words are cut out as they stand, byte for byte.
	for at, r := range line {
		switch {
		case r == ' ' || r == '\t':
			if begin >= 0 {
				words = append(words, word{text: line[begin:at], rest: line[at+1:]})
			}
			begin = -1
		case r < ' ':
			return nil, false
		case begin < 0:
			begin = at
		}
	}
	if begin >= 0 {
		words = append(words, word{text: line[begin:]})
	}
	return words, true
}

// asksNothing tells whether a line of these words is one that is passed over.
func asksNothing(words []word) bool { return len(words) == 0 || words[0].text[0] == '#' }
