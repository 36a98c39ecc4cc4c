package shell

import "strings"

// The digits of a byte behind \x, which are small letters alone.
const hexDigits = "0123456789abcdef"

// unquoted are the bytes for which quoted ones stand; false: they are none.
func unquoted(text string) ([]byte, bool) {
	var b []byte
	for {
		plain, behind, escaped := strings.Cut(text, `\`)
		b = append(b, plain...)
		if !escaped {
			return b, true
		}
		one, size := escapedByte(behind)
		if size == 0 {
			return nil, false
		}
		b = append(b, one)
		text = behind[size:]
	}
}

// escapedByte is the byte for which stands what comes behind a \, and how much of it does; 0: nothing does.
func escapedByte(behind string) (byte, int) {
	if len(behind) == 0 {
		return 0, 0
	}
	switch behind[0] {
	case '\\':
		return '\\', 1
	case 'n':
		return '\n', 1
	case 't':
		return '\t', 1
	case 'x':
		if len(behind) < 3 {
			return 0, 0
		}
		high, low := strings.IndexByte(hexDigits, behind[1]), strings.IndexByte(hexDigits, behind[2])
		if high >= 0 && low >= 0 {
			return byte(16*high + low), 3
		}
	}
	return 0, 0
}

// quote writes bytes as quoted ones behind what was written.
func quote(out *strings.Builder, b []byte) {
	out.WriteByte('"')
	for _, one := range b {
		switch {
		case one == '\\':
			out.WriteString(`\\`)
		case one == '\n':
			out.WriteString(`\n`)
		case one == '\t':
			out.WriteString(`\t`)
		case one < ' ' || one > '~' || one == '"':
			out.WriteString(`\x`)
			out.WriteByte(hexDigits[one>>4])
			out.WriteByte(hexDigits[one&15])
		default:
			out.WriteByte(one)
		}
	}
	out.WriteByte('"')
}
