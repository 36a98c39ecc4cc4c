package replace

import (
	"strings"

	"heron/regex"
)

// reader is a template, as far as it has been read, and the groups' names, which the template does not keep.
type reader struct {
	*Template
	names map[string]int
}

func newReader(r *regex.Regex) *reader {
	names := map[string]int{}
	for i, name := range r.Names() {
		// What has no name can't be named.
		if name != "" {
			names[name] = i + 1
		}
	}
	return &reader{Template: &Template{groups: make([][]int, r.Groups()+1)}, names: names}
}

// read reads all of a template; false: it may not be.
func (r *reader) read(rest string) bool {
	for rest != "" {
		text, behind, isSign := strings.Cut(rest, "$")
		r.addText(text)
		if !isSign {
			return true
		}
		var may bool
		if rest, may = r.readSign(behind); !may {
			return false
		}
	}
	return true
}

// readSign reads what stands behind a `$`, and is what stands behind that; false: it may not stand there.
func (r *reader) readSign(rest string) (string, bool) {
	if strings.HasPrefix(rest, "$") {
		r.addText(rest[:1])
		return rest[1:], true
	}
	if strings.HasPrefix(rest, "{") {
		word, behind, isClosed := strings.Cut(rest[1:], "}")
		return behind, isClosed && r.addGroup(word)
	}
	digits := digitsAhead(rest)
	return rest[digits:], r.addGroup(rest[:digits])
}

// digitsAhead tells with how many digits a text begins.
func digitsAhead(s string) int { return len(s) - len(strings.TrimLeft(s, "0123456789")) }

// addText adds what stands for itself. It is a copy: else all that was handed in would be kept.
func (r *reader) addText(s string) {
	if s == "" {
		return
	}
	r.texts = append(r.texts, len(r.parts))
	r.plain += len(s)
	r.parts = append(r.parts, part{put: part.putText, text: strings.Clone(s)})
}

// addGroup adds the group of a number or of a name; false: there is none.
func (r *reader) addGroup(word string) bool {
	k, is := r.groupOf(word)
	if !is {
		return false
	}
	r.groups[k] = append(r.groups[k], len(r.parts))
	r.parts = append(r.parts, part{put: part.putGroup, group: k})
	return true
}

// groupOf is the group of a number or of a name; false: there is none.
func (r *reader) groupOf(word string) (int, bool) {
	if word == "" || digitsAhead(word) < len(word) {
		k, is := r.names[word]
		return k, is
	}
	k := 0
	for i := range len(word) {
		// Beyond the last group, all numbers are the same: so none is too great for an int.
		k = min(10*k+int(word[i]-'0'), len(r.groups))
	}
	return k, k < len(r.groups)
}
