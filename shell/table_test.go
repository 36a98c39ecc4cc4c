package shell_test

import (
	"slices"
	"strings"
	"testing"

	"heron/api"
	"heron/shell"
)

// row is a line of the table: its words, whether it ends with a rest (or with as many words as one likes), and what it tells behind given().
type row struct {
	words string
	open  bool
	want  string
}

// rows are all lines of the table, each in some ways.
func rows() []row {
	return []row{
		{`pattern n`, true, `ok`},
		{`text n`, true, `ok`},
		{`engine p 4`, false, `ok`},
		{`groups p`, false, `1 x`},
		{`groups q`, false, `1 -`},
		{`groups e`, false, `0`},
		{`match p t`, false, `yes`},
		{`match p u`, false, `no`},
		{`find p t`, false, `1 4`},
		{`find p u`, false, `none`},
		{`submatch p t`, false, `1 4 2 4`},
		{`submatch q t`, false, `none`},
		{`all p t -1`, false, `1 4 2 4; 5 6 6 6`},
		{`all p t 1`, false, `1 4 2 4`},
		{`all p t 0`, false, `none`},
		{`all p u -1`, false, `none`},
		{`replace p t`, true, `"x-"`},
		{`split p t -1`, false, `3 "x" "-" ""`},
		{`split p t 2`, false, `2 "x" "-a"`},
		{`split p t 1`, false, `1 "xabb-a"`},
		{`split p t 0`, false, `0`},
		{`split p u -1`, false, `1 "c\n"`},
		{`split p v -1`, false, `1 ""`},
		{`which t p`, true, `0`},
		{`which t q`, true, `none`},
		{`first t p`, true, `0 1 4 2 4`},
		{`first t q`, true, `none`},
	}
}

// TestEachLine: P20.2: each line of the table tells what the table says.
func TestEachLine(t *testing.T) {
	for _, x := range rows() {
		wantLast(t, given(), x.words, x.want+"\n")
	}
}

// TestTooFew: P20.2: with one word too few, and with ever fewer, a line is none.
func TestTooFew(t *testing.T) {
	for _, x := range rows() {
		words := strings.Fields(x.words)
		for count := 1; count < len(words); count++ {
			for _, behind := range []string{"", " ", "\t  "} {
				wantNothingElse(t, strings.Join(words[:count], " ")+behind)
			}
		}
	}
}

// TestTooMany: P20.2: with one word too many, a line is none, be it a word that stands there already, or the name of something. Where a rest stands, or where there may be more words, it is another one.
func TestTooMany(t *testing.T) {
	for _, x := range rows() {
		words := strings.Fields(x.words)
		for _, more := range []string{"p", "t", "x", "1", "-1", "#", "#x", "\xFF", `"`, words[0]} {
			for at := 1; at <= len(words); at++ {
				line := strings.Join(slices.Insert(slices.Clone(words), at, more), " ")
				if !x.open {
					wantNothingElse(t, line)
				} else {
					wantModel(t, given()+line+"\n"+asking())
				}
			}
		}
	}
}

// TestNearlyRight: P20.2: a word of a command that is nearly right is none.
func TestNearlyRight(t *testing.T) {
	for _, x := range rows() {
		command, behind, _ := strings.Cut(x.words, " ")
		near := []string{command[1:], command[:len(command)-1], command + command[:1], "x" + command, command + "s", command + ":", command + "\xA0", "\xC3" + command, "-" + command, strings.ToUpper(command), strings.ToUpper(command[:1]) + command[1:], command[:1] + " " + command[1:], command + command, `"` + command + `"`, command + "\x7F", strings.Replace(command, "t", "+", 1) + "é"}
		for _, word := range near {
			wantNothingElse(t, word+" "+behind)
			wantNothingElse(t, word)
		}
	}
	for _, word := range []string{"what", "help", "exit", "matches", "compile", "names", "with", "regex", "fault", "ok", "none", "P", "p", "t", "-1", "0", "1 2", "NAME", "pattern NAME", "P T"} {
		if word != "pattern NAME" {
			wantNothingElse(t, word)
		}
	}
}

// TestWrongOrder: P20.2: words in another order are other words.
func TestWrongOrder(t *testing.T) {
	for _, line := range []string{`match t p`, `find t p`, `submatch t p`, `all t p -1`, `all p -1 t`, `all -1 p t`, `split t p -1`, `split p -1 t`, `replace t p x`, `which p t`, `first p t`, `which p q t`, `engine 1 p`, `p match t`, `p t match`, `groups t`, `engine t 1`, `which p`, `first p`, `which t`, `first t`} {
		wantNothingElse(t, line)
	}
}

// TestPatternIsNotQuoted: P20.2: the rest of pattern and replace stands for itself, that of text is quoted.
func TestPatternIsNotQuoted(t *testing.T) {
	wantTold(t, linesOf(`pattern p \n\x{41}`, `text t \nA\\nA`, `find p t`), linesOf(`ok`, `ok`, `0 2`))
	wantTold(t, linesOf(`pattern p a`, `text t -a-`, `replace p t \n\x41"\`), linesOf(`ok`, `ok`, `"-\\n\\x41\x22\\-"`))
	wantTold(t, linesOf(`pattern p \\`, `text t -\\-`, `find p t`, `split p t -1`), linesOf(`ok`, `ok`, `1 2`, `2 "-" "-"`))
	wantTold(t, linesOf(`pattern p "a"`, `text t "a"`, `find p t`, `replace p t "$0"`), linesOf(`ok`, `ok`, `0 3`, `"\x22\x22a\x22\x22"`))
}

// TestGroups: P20.2: how many groups, and the name of each.
func TestGroups(t *testing.T) {
	for _, x := range [][2]string{
		{``, `0`}, {`a`, `0`}, {`(?:a)`, `0`}, {`()`, `1 -`}, {`(a)(b)`, `2 - -`}, {`(?P<x>a)`, `1 x`}, {`(a)(?P<x>b)`, `2 - x`}, {`(?P<x>(a)(?P<y1>b))`, `3 x - y1`}, {`(?P<b>a)|(?P<a>b)|(c)`, `3 b a -`}, {`(?P<_>a){0}`, `1 _`},
		{strings.Repeat(`()`, api.MaxGroups), itoa(api.MaxGroups) + strings.Repeat(` -`, api.MaxGroups)},
		{`(?P<` + strings.Repeat(`n`, api.MaxName) + `>a)`, `1 ` + strings.Repeat(`n`, api.MaxName)},
	} {
		wantTold(t, linesOf(`pattern p `+x[0], `groups p`), linesOf(`ok`, x[1]))
	}
}

// TestSets: P20.2: which and first with one pattern, with several, with the same one twice, in this order, with one that was not given, at any place; by whatever engine a pattern is searched for otherwise.
func TestSets(t *testing.T) {
	ahead := linesOf(`pattern a a+`, `pattern b (b)`, `pattern d \d`, `pattern ab ab`, `pattern none `+never, `pattern empty`, `text t xaab`, `text u b1`, `text v -`, `text w`, `engine a 2`, `engine b 4`, `engine d 1`)
	for _, x := range [][3]string{
		{`t a`, `0`, `0 1 3`}, {`t b`, `0`, `0 3 4 3 4`}, {`t d`, `none`, `none`}, {`w empty`, `0`, `0 0 0`}, {`w a`, `none`, `none`},
		{`t a b d ab`, `0 1 3`, `0 1 3`}, {`u a b d ab`, `1 2`, `1 0 1 0 1`}, {`v a b d ab`, `none`, `none`},
		{`t ab d b a`, `0 2 3`, `3 1 3`}, {`t b b`, `0 1`, `0 3 4 3 4`}, {`u d b d b`, `0 1 2 3`, `1 0 1 0 1`}, {`t d d d a`, `3`, `3 1 3`},
		{`t none none`, `none`, `none`}, {`t none empty`, `1`, `1 0 0`}, {`t empty empty`, `0 1`, `0 0 0`}, {`t a a`, `0 1`, `0 1 3`},
	} {
		wantLast(t, ahead, `which `+x[0], x[1]+"\n")
		wantLast(t, ahead, `first `+x[0], x[2]+"\n")
	}
	for _, words := range []string{`t`, `t x`, `t x a`, `t a x`, `t a x b`, `t a t`, `x a`, `a a`, `a t`, ``, `t A`, `t a b d ab zz`, `t a,b`, `T a`} {
		wantLast(t, ahead, `which `+words, "error 200\n")
		wantLast(t, ahead, `first `+words, "error 200\n")
	}
}

// TestEngines: P20.2: a pattern by another engine has the name from then on, and can be given another one, and finds the same; what is refused leaves it as it was.
func TestEngines(t *testing.T) {
	ask := linesOf(`match p t`, `find p t`, `submatch p t`, `all p t -1`, `all p t 1`, `replace p t <$1>`, `split p t -1`, `groups p`, `which t p p`, `first t p`)
	for _, pattern := range []string{`a(b*)`, `\A(x)`, `(a)|(b)`, never, `()`, `\A(?:(a)|(x))+`} {
		ahead := linesOf(`pattern p `+pattern, `text t xabb-a`)
		want := strings.TrimPrefix(shell.Do(ahead+ask), "ok\nok\n")
		anchored := strings.HasPrefix(pattern, `\A`)
		three := "error 160\n"
		if anchored {
			three = "ok\n"
		}
		for _, engines := range [][]string{{"0"}, {"1"}, {"2"}, {"3"}, {"4"}, {"1", "2", "3", "4", "0"}, {"2", "9", "-1", "5"}, {"4", "3", "4"}, {"00000002"}, {"-0"}} {
			text, told := ahead, "ok\nok\n"
			for _, engine := range engines {
				text += `engine p ` + engine + "\n"
				switch engine {
				case "3":
					told += three
				case "9", "-1", "5":
					told += "error 1\n"
				default:
					told += "ok\n"
				}
				text, told = text+ask, told+want
			}
			wantTold(t, text, told)
		}
	}
}
