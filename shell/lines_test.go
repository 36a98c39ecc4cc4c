package shell_test

import (
	"strings"
	"testing"

	"heron/api"
	"heron/shell"
)

// examples are those of the chapter, and the ten of the whole.
func examples() [][2]string {
	return [][2]string{
		{``, ``},
		{`# x/`, ``},
		{`pattern p a(b*)/text t xabb/submatch p t`, `ok/ok/1 4 2 4/`},
		{`pattern p a(/pattern p/match p q`, `fault 40 at 2/ok/error 200/`},
		{`pattern p a*/text t baaab/all p t -1/all p t 1/find p t`, `ok/ok/0 0; 1 4; 5 5/0 0/0 0/`},
		{`pattern p (?P<x>a)|b/text t a\nb/replace p t <${x}>/split p t -1/groups p`, `ok/ok/"<a>\n<>"/3 "" "\n" ""/1 x/`},
		{`pattern p a/pattern q b/text t ba/which t p q/first t p q/which t q q`, `ok/ok/ok/0 1/1 0 1/0 1/`},
		{`text t \q/text t \x4/what/pattern`, `error 200/error 200/error 200/error 200/`},
		{`pattern p ab/engine p 3/engine p 9/engine p 2/text t/match p t`, `ok/error 160/error 1/ok/ok/no/`},
		{`pattern p a/text t a/replace p t $`, `ok/ok/error 170/`},

		{`pattern p a|ab/text t ab/find p t`, `ok/ok/0 1/`},
		{`pattern p (a|ab)(c|bcd)(d*)/text t abcd/submatch p t`, `ok/ok/0 4 0 1 1 4 4 4/`},
		{`pattern p (|a)+/text t aa/all p t -1`, `ok/ok/0 0 0 0; 1 1 1 1; 2 2 2 2/`},
		{`pattern p (?:(a??)(b??))+c/text t abc/submatch p t`, `ok/ok/0 3 0 1 1 2/`},
		{`pattern p a{2,1}/pattern p (a/pattern p [b-a]`, `fault 43 at 1/fault 40 at 2/fault 42 at 1/`},
		{`pattern p \b\w/text t one two/replace p t <$0>`, `ok/ok/"<o>ne <t>wo"/`},
		{`pattern p ,\x{20}?/text t a, b,c/split p t -1`, `ok/ok/3 "a" "b" "c"/`},
		{`pattern p ^b/pattern q b$/text t a\nb/which t p q/first t p q`, `ok/ok/ok/0 1/0 2 3/`},
		{`pattern p \x{E9}/text t \xc3\xa9\xc3/all p t -1/pattern q \x{FFFD}/find q t`, `ok/ok/0 2/ok/2 3/`},
	}
}

// TestExamples: P20.1, P20.2: the chapter's examples, and those of the whole; a last line with a byte 10 behind it and without one is the same.
func TestExamples(t *testing.T) {
	for _, x := range examples() {
		text, want := slashed(x[0]), slashed(x[1])
		wantTold(t, text, want)
		wantTold(t, strings.TrimSuffix(text, "\n"), want)
		wantTold(t, text+"\n", want)
		wantTold(t, text+"\n\n", want)
		wantTold(t, "\n"+text, want)
	}
}

// TestTellsNothing: P20.1: lines of no words, of blanks alone, and with # at the beginning of the first word.
func TestTellsNothing(t *testing.T) {
	for _, line := range passedOver() {
		wantTold(t, line, "")
		wantTold(t, line+"\n", "")
		wantWithout(t, line, "")
	}
	wantTold(t, strings.Join(passedOver(), "\n"), "")
}

// passedOver are lines that tell nothing.
func passedOver() []string {
	return []string{"", " ", "\t", " \t  \t", "#", "# ", "#x", "##", "# x", "  # x", "\t#", "#pattern p (", "# pattern p b", "#\tx", "# \xFF\xC3\x28", "#é\x7F", " #\"\\x", "# text t b", "\t\t \t#"}
}

// TestNoSharpAhead: P20.1: a # elsewhere than at the beginning of the first word is a byte like others.
func TestNoSharpAhead(t *testing.T) {
	for _, line := range []string{"x# x", "p#", "-#", "\"#\"", "pattern#", "pattern# n a", "match p #", "match # t", "match p t #", "groups p # x", "engine p 2 # x", "all p t -1 #", "\xC3# x", "\x7F#"} {
		wantNothingElse(t, line)
	}
	wantTold(t, linesOf(`pattern # a#b`, `text # -a#b # x`, `find # #`, `replace # # #`, `split # # -1`), linesOf(`ok`, `ok`, `1 4`, `"-# # x"`, `2 "-" " # x"`))
}

// TestLowBytes: P20.1, P20.2: a byte below 32 but 9 is none that may stand in a line, be it one that tells nothing else, wherever it stands; 9 is a blank, 10 ends the line, and all others may stand there.
func TestLowBytes(t *testing.T) {
	for one := range 256 {
		c := string([]byte{byte(one)})
		for _, line := range []string{"#" + c, "# x" + c + "y", c + "#", " " + c, c, "pattern n a" + c, "pattern n" + c + " a", "text n a" + c + "b", "text n " + c, "text" + c + " n a", c + "match p t", "match" + c + "p t", "match p t" + c, "replace p t -" + c, "which t p " + c, "first t p q" + c, "engine p " + c + "1", "groups p " + c} {
			if one < 32 && one != 9 && one != 10 {
				wantNothingElse(t, line)
			} else {
				wantModel(t, given()+line+"\n"+asking())
			}
		}
	}
	// Both at the end of lines, as in the texts of some machines.
	wantTold(t, "pattern p a\r\ntext t a\r\n\r\n#\r\nmatch p t\r\n", strings.Repeat("error 200\n", 5))
}

// TestBlanks: P20.1, P20.2: words are told apart by one blank or more, of both kinds, and blanks may stand ahead of the first one and behind the last one.
func TestBlanks(t *testing.T) {
	for _, ahead := range []string{"", " ", "\t", "  \t "} {
		for _, between := range []string{" ", "\t", "  ", "\t \t", "     "} {
			for _, behind := range []string{"", " ", "\t", " \t\t "} {
				line := func(words ...string) string { return ahead + strings.Join(words, between) + behind }
				text := linesOf(ahead+"pattern"+between+"p (a)|b", ahead+"text"+between+"t a-b", line("match", "p", "t"), line("find", "p", "t"), line("submatch", "p", "t"), line("all", "p", "t", "-1"), line("split", "p", "t", "-1"), line("groups", "p"), line("engine", "p", "1"), line("which", "t", "p", "p"), line("first", "t", "p"), ahead+"replace"+between+"p"+between+"t <$1>")
				wantTold(t, text, linesOf(`ok`, `ok`, `yes`, `0 1`, `0 1 0 1`, `0 1 0 1; 2 3 -1 -1`, `3 "" "-" ""`, `1 -`, `ok`, `0 1`, `0 0 1 0 1`, `"<a>-<>"`))
			}
		}
	}
	// What looks like a blank, but is none.
	for _, c := range []string{"\u00A0", "\u2003", "\u0085", "\u3000", "\x7F", "\xA0", ",", "_"} {
		wantNothingElse(t, "match"+c+"p"+c+"t")
		wantNothingElse(t, "match p"+c+"t")
		wantNothingElse(t, "match p t"+c)
		wantNothingElse(t, c+"match p t")
		wantNothingElse(t, c)
		wantNothingElse(t, c+"# x")
	}
}

// TestLongest: P20.1: texts of MaxLine bytes, and one more, whatever they are; it is the bytes that are counted.
func TestLongest(t *testing.T) {
	const long = api.MaxLine
	for _, unit := range []string{"#", "\n", " ", "# x\n", "é", "\xFF", "\x00", "match p t\n", "pattern p a\n", "text t \\x00\\n\n", "\r\n", "which which ", "\"\\"} {
		text := strings.Repeat(unit, long/len(unit)+2)
		wantTold(t, text[:long+1], "error 2\n")
		wantTold(t, text, "error 2\n")
		if got := shell.Do(text[:long]); got == "error 2\n" {
			t.Errorf("%s is too long", shown(text[:long]))
		}
		wantModel(t, text[:long])
	}
	begin := "pattern p (a*)\ntext t "
	for _, end := range []string{"\nsubmatch p t", "\nsubmatch p t\n"} {
		count := long - len(begin) - len(end)
		told := slashed(strings.ReplaceAll(`ok/ok/0 N 0 N/`, "N", itoa(count)))
		wantTold(t, begin+strings.Repeat("a", count)+end, told)
		wantTold(t, begin+strings.Repeat("a", count+1)+end, "error 2\n")
		wantTold(t, begin+strings.Repeat("a", count)+end+"\n", "error 2\n")
		wantTold(t, "\n"+begin+strings.Repeat("a", count)+end, "error 2\n")
	}
	wantTold(t, strings.Repeat("#", 10*long), "error 2\n")
	wantTold(t, strings.Repeat("pattern p (\n", long), "error 2\n")
}
