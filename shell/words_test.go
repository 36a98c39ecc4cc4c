package shell_test

import (
	"fmt"
	"strings"
	"testing"

	"heron/shell"
)

// TestNumbers: P20.2: a number has 1 to 9 digits, noughts ahead among them, and perhaps one - ahead.
func TestNumbers(t *testing.T) {
	ahead := linesOf(`pattern p a`, `text t a-a-a`)
	for _, x := range [][3]string{
		{`0`, `none`, `0`}, {`1`, `0 1`, `1 "a-a-a"`}, {`2`, `0 1; 2 3`, `2 "" "-a-a"`}, {`9`, `0 1; 2 3; 4 5`, `4 "" "-" "-" ""`},
		{`123456789`, `0 1; 2 3; 4 5`, `4 "" "-" "-" ""`}, {`999999999`, `0 1; 2 3; 4 5`, `4 "" "-" "-" ""`}, {`-999999999`, `0 1; 2 3; 4 5`, `4 "" "-" "-" ""`}, {`-1`, `0 1; 2 3; 4 5`, `4 "" "-" "-" ""`}, {`-2`, `0 1; 2 3; 4 5`, `4 "" "-" "-" ""`},
		{`-0`, `none`, `0`}, {`00`, `none`, `0`}, {`000000000`, `none`, `0`}, {`-000000000`, `none`, `0`}, {`01`, `0 1`, `1 "a-a-a"`}, {`0001`, `0 1`, `1 "a-a-a"`}, {`000000002`, `0 1; 2 3`, `2 "" "-a-a"`}, {`-000000001`, `0 1; 2 3; 4 5`, `4 "" "-" "-" ""`}, {`08`, `0 1; 2 3; 4 5`, `4 "" "-" "-" ""`},
	} {
		wantLast(t, ahead, `all p t `+x[0], x[1]+"\n")
		wantLast(t, ahead, `split p t `+x[0], x[2]+"\n")
	}
	for _, x := range [][2]string{{`0`, `ok`}, {`1`, `ok`}, {`4`, `ok`}, {`004`, `ok`}, {`000000004`, `ok`}, {`-0`, `ok`}, {`3`, `error 160`}, {`03`, `error 160`}, {`5`, `error 1`}, {`10`, `error 1`}, {`40`, `error 1`}, {`-1`, `error 1`}, {`-4`, `error 1`}, {`999999999`, `error 1`}, {`-999999999`, `error 1`}} {
		wantLast(t, ahead, `engine p `+x[0], x[1]+"\n")
	}
	for _, n := range noNumbers() {
		for _, line := range []string{`all p t ` + n, `split p t ` + n, `engine p ` + n} {
			wantNothingElse(t, line)
		}
	}
}

// noNumbers are words that are nearly numbers.
func noNumbers() []string {
	return []string{`1234567890`, `0000000000`, `0000000001`, `0000000004`, `-1234567890`, `-0000000001`, `4294967297`, `18446744073709551617`, `99999999999999999999999`, `-`, `--`, `--1`, `---1`, `-+1`, `+1`, `+`, `1-`, `-1-`, `1-1`, `1a`, `a1`, `a`, `0x1`, `0b1`, `1_0`, `1.0`, `1e1`, `1,`, `"1"`, `1"`, `\x31`, `٣`, `１`, "1\xFF", "\xC31", "1\x7F", `N`, `−1`, `1;`, `~`, `/`, `:`, `1/`, `1:`, strings.Repeat(`0`, 1000), strings.Repeat(`-`, 1000)}
}

// wantText fails, if the rest does not give a text of these bytes.
func wantText(t testing.TB, rest string, want string) {
	t.Helper()
	wantTold(t, "pattern e "+never+"\ntext t"+rest+"\nsplit e t -1\nreplace e t x", "ok\nok\n1 "+quotedModel(want)+"\n"+quotedModel(want)+"\n")
}

// TestRests: P20.2: a rest is all that stands behind the one blank that ends the word, blanks too; nothing, if there is no blank.
func TestRests(t *testing.T) {
	for _, x := range [][2]string{
		{"", ""}, {" ", ""}, {"\t", ""}, {"  ", " "}, {" \t", "\t"}, {"\t ", " "}, {"\t\t", "\t"}, {"   ", "  "},
		{" a", "a"}, {"\ta", "a"}, {"  a", " a"}, {" \ta", "\ta"}, {"\t a", " a"}, {" a ", "a "}, {" a\t", "a\t"}, {"  a  ", " a  "}, {" a  b\tc ", "a  b\tc "}, {"\t\ta\t\t", "\ta\t\t"}, {" # x", "# x"}, {"  t  t", " t  t"}, {` "`, `"`}, {" \u00A0", "\u00A0"},
	} {
		wantText(t, x[0], x[1])
		// The same rest as a pattern, and as a template.
		wantTold(t, "text t - a\t"+x[1]+"-\npattern p"+x[0]+"\nfind p t", "ok\nok\n"+findModel("- a\t"+x[1]+"-", x[1]))
		wantTold(t, "pattern p ,\ntext t -,-\nreplace p t"+x[0], "ok\nok\n"+quotedModel("-"+x[1]+"-")+"\n")
	}
	// More blanks ahead of a name are none of the rest.
	wantTold(t, linesOf("pattern \t p  a", "text\t  t \t a", "find p t", "replace  p\t t  -", "replace p  t\t\t"), linesOf(`ok`, `ok`, `1 3`, `"\t -"`, `"\t\t"`))
}

// findModel is what find tells of a text in which something stands, that has no meaning as a pattern but itself.
func findModel(text, what string) string {
	at := strings.Index(text, what)
	return fmt.Sprintf("%d %d\n", at, at+len(what))
}

// TestQuoted: P20.2: what quoted bytes stand for.
func TestQuoted(t *testing.T) {
	for _, x := range [][2]string{
		{`\\`, `\`}, {`\n`, "\n"}, {`\t`, "\t"}, {`\x41`, "A"}, {`\x00`, "\x00"}, {`\xff`, "\xFF"}, {`\x0a`, "\n"}, {`\x5c`, `\`}, {`\x22`, `"`}, {`\x7f`, "\x7F"}, {`\xc3\xa9`, "é"},
		{`\\n`, `\n`}, {`\\\n`, "\\\n"}, {`\\\\`, `\\`}, {`\\x41`, `\x41`}, {`\x41\x42`, "AB"}, {`\x414`, "A4"}, {`\x4141`, "A41"}, {`\nn`, "\nn"}, {`\tt`, "\tt"}, {`\x5cn`, `\n`}, {`\x5cx41`, `\x41`}, {`a\nb\tc\\d\x65f`, "a\nb\tc\\def"}, {`"\n"`, "\"\n\""}, {`/`, `/`}, {`x41`, `x41`}, {`n\n`, "n\n"}, {`\n `, "\n "}, {` \t`, " \t"}, {`\t` + "\t", "\t\t"}, {"é\\n\xFF\\xff", "é\n\xFF\xFF"}, {"\xC3\\xa9", "é"},
	} {
		wantText(t, " "+x[0], x[1])
	}
	for one := range 256 {
		wantText(t, fmt.Sprintf(` -\x%02x-`, one), "-"+string([]byte{byte(one)})+"-")
		if one >= 32 && one != '\\' || one == 9 {
			wantText(t, " -"+string([]byte{byte(one)})+"-", "-"+string([]byte{byte(one)})+"-")
		}
	}
}

// TestNoQuoted: P20.2: what are no quoted bytes: cut off at the end, with great letters, with others behind a \.
func TestNoQuoted(t *testing.T) {
	l := []string{`\`, `a\`, `\\\`, `\n\`, `\x`, `\x4`, `\x4\n`, `a\x`, `\x\x41`, `\x4 1`, `\x 41`, `\xg0`, `\x0g`, `\x4A`, `\xA4`, `\xFF`, `\xAB`, `\xaB`, `\xAb`, `\X41`, `\N`, `\T`, `\x{41}`, `\x4:`, `\x4/`, "\\x4`", `\x@0`, `\x-1`, `\x+1`, `\ n`, "\\\t", `\x4` + "é", "\\\xFF", `\é`, `\x` + "\xFF\xFF", `ok\q`, `\q ok`, `\n\t\\\x41\`}
	for one := range 256 {
		c := string([]byte{byte(one)})
		if !strings.Contains(`\ntx`, c) && one != 10 {
			l = append(l, `\`+c, `a\`+c+`b`)
		}
		if !strings.Contains("0123456789abcdef", c) && one != 10 {
			l = append(l, `\x`+c+`0`, `\x0`+c)
		}
	}
	for _, rest := range l {
		wantNothingElse(t, `text n `+rest)
		wantNothingElse(t, `text t `+rest)
		wantNothingElse(t, `text t a `+rest)
	}
}

// TestTold: P20.2: how bytes are told: each byte in its own way, within what is replaced and among the pieces.
func TestTold(t *testing.T) {
	for one := range 256 {
		c := byte(one)
		want := fmt.Sprintf(`\x%02x`, c)
		switch {
		case c == '\n':
			want = `\n`
		case c == '\t':
			want = `\t`
		case c == '\\':
			want = `\\`
		case c >= 32 && c <= 126 && c != '"':
			want = string(rune(c))
		}
		wantTold(t, linesOf(`pattern p ;`, fmt.Sprintf(`text t \x%02x;-\x%02x`, c, c), `replace p t`, `split p t -1`, `find p t`), toldOf(c, want))
	}
	// A rune of several bytes is told byte by byte.
	wantTold(t, linesOf(`pattern p -`, "text t é-😀\x7F", `replace p t "é"`, `split p t -1`), linesOf(`ok`, `ok`, `"\xc3\xa9\x22\xc3\xa9\x22\xf0\x9f\x98\x80\x7f"`, `2 "\xc3\xa9" "\xf0\x9f\x98\x80\x7f"`))
}

// toldOf is what is told of a text in which a byte stands twice, with ;- between, at which it is split at each ;.
func toldOf(c byte, told string) string {
	if c == ';' {
		return linesOf(`ok`, `ok`, `"-"`, `4 "" "" "-" ""`, `0 1`)
	}
	return linesOf(`ok`, `ok`, `"`+told+`-`+told+`"`, `2 "`+told+`" "-`+told+`"`, `1 2`)
}

// TestThereAndBack: P20.2: what is told is what can be given again, all bytes of it.
func TestThereAndBack(t *testing.T) {
	var all strings.Builder
	for i := range 256 * 256 {
		if i%257 < 200 {
			fmt.Fprintf(&all, `\x%02x`, (i*7+i/256)%256)
		}
	}
	text := "pattern e " + never + "\ntext t " + all.String()[:40000]
	told := strings.Split(shell.Do(text+"\nreplace e t"), "\n")
	inner := strings.TrimSuffix(strings.TrimPrefix(told[2], `"`), `"`)
	wantTold(t, text+"\nreplace e t\ntext t "+inner+"\nreplace e t\ntext t a\nreplace e t", linesOf(`ok`, `ok`, told[2], `ok`, told[2], `ok`, `"a"`))
}

// TestBytes: P20.2: bytes from 127 on, and bytes that are no UTF-8, in rests: of patterns, of texts, of templates; offsets are those of bytes.
func TestBytes(t *testing.T) {
	wantTold(t, linesOf("pattern p \x7F|é", "text t -\x7Fé", `all p t -1`), linesOf(`ok`, `ok`, `1 2; 2 4`))
	wantTold(t, linesOf("pattern p \xC3", "pattern p a\xFF", "pattern p é\xA9", "pattern p [\xC3\xA9]"), linesOf(`fault 40 at 1`, `fault 40 at 1`, `fault 40 at 2`, `ok`))
	wantTold(t, linesOf(`pattern p .`, "text t \xC3\xA9\xFF\xC3😀\xA9", `all p t -1`, `split p t 2`), linesOf(`ok`, `ok`, `0 2; 2 3; 3 4; 4 8; 8 9`, `2 "" "\xff\xc3\xf0\x9f\x98\x80\xa9"`))
	wantTold(t, linesOf(`pattern p a`, "text t \xFFa\xC3", "replace p t \xA9\xFF$0é", "replace p t \xC3", `find p t`), linesOf(`ok`, `ok`, `"\xff\xa9\xffa\xc3\xa9\xc3"`, `"\xff\xc3\xc3"`, `1 2`))
	wantTold(t, linesOf("text \xFF \xFF", "pattern \xC3 \\x{FFFD}", "all \xC3 \xFF -1", "all \xFF \xC3 -1"), linesOf(`ok`, `ok`, `0 1`, `error 200`))
	// A piece of a rune ahead of a blank, or of a byte 10, leaves these what they are.
	for _, c := range []string{"\xC3", "\xE2\x82", "\xF0\x9F\x98", "\xF4", "\xFF", "\xED\xA0\x80"} {
		wantTold(t, "text "+c+" "+c+" "+c+"\npattern "+c+"\tx?\nreplace "+c+" "+c+" -\n#"+c+"\n"+c, linesOf(`ok`, `ok`, quotedModel("-"+dashed(c+" "+c)), `error 200`))
	}
}

// dashed are bytes with a - behind each rune, and behind each byte that is no rune's.
func dashed(text string) string {
	var l strings.Builder
	for at, r := range text {
		size := len(string(r))
		if r == '\uFFFD' {
			size = 1
		}
		l.WriteString(text[at:at+size] + "-")
	}
	return l.String()
}
