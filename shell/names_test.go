package shell_test

import (
	"strings"
	"testing"

	"heron/shell"
)

// TestNotGiven: P20.2: names that were not given, of patterns and of texts, in each line that has one; a pattern's is no text's, nor the other way about.
func TestNotGiven(t *testing.T) {
	for _, line := range []string{
		`match n t`, `match p n`, `match n n`, `find n t`, `find p n`, `submatch n t`, `submatch p n`, `all n t -1`, `all p n -1`, `replace n t x`, `replace p n x`, `split n t -1`, `split p n -1`, `groups n`, `engine n 1`, `which n p`, `which t n`, `which t p n`, `first n p`, `first t n`, `first t n p`,
		`match t t`, `match p p`, `groups t`, `engine t 1`, `which p p`, `which t t`, `first p p`, `first t p t`, `replace p p $0`, `all t p -1`,
		`match P t`, `match p T`, `match pp t`, `match "p" t`, `match p: t`, `match p\x70 t`, `match x t`,
	} {
		wantNothingElse(t, line)
		wantTold(t, line, "error 200\n")
	}
	// A wrong engine, template or number of a name that was not given: the line is none.
	for _, line := range []string{`engine n 9`, `engine n 3`, `replace n t $`, `replace p n $`, `split n t x`, `all p n 1234567890`} {
		wantNothingElse(t, line)
	}
}

// TestGivenLater: P20.1: lines are carried out from the first on: a name is there from the line on that gives it.
func TestGivenLater(t *testing.T) {
	wantTold(t, linesOf(`match p t`, `pattern p a`, `match p t`, `text t a`, `match p t`, `pattern p b`, `match p t`, `text t b`, `match p t`), linesOf(`error 200`, `ok`, `error 200`, `ok`, `yes`, `ok`, `no`, `ok`, `yes`))
}

// TestGivenAnew: P20.2: a name that is given anew is the newer thing's, with its own engine; other names stay.
func TestGivenAnew(t *testing.T) {
	wantTold(t, linesOf(`pattern p (a)`, `pattern q a`, `text t ab`, `text u ab`, `submatch p t`, `pattern p b`, `text t -b`, `submatch p t`, `submatch q u`, `submatch p u`, `groups p`, `replace p t`), linesOf(`ok`, `ok`, `ok`, `ok`, `0 1 0 1`, `ok`, `ok`, `1 2`, `0 1`, `1 2`, `0`, `"-"`))
	wantTold(t, linesOf(`text t abc`, `text t`, `pattern p`, `find p t`, `text t \n`, `split p t -1`), linesOf(`ok`, `ok`, `ok`, `0 0`, `ok`, `3 "" "\n" ""`))
	// By the engine 2 it would be refused: the newer one has no engine of the older one's.
	long := strings.Repeat("a", 2000)
	wantTold(t, linesOf(`pattern p (?:a{1000}){10}`, `engine p 2`, `text t `+long, `match p t`, `pattern p (?:a{1000}){10}`, `match p t`, `engine p 2`, `match p t`, `engine p 0`, `match p t`), linesOf(`ok`, `ok`, `ok`, `error 3`, `ok`, `no`, `ok`, `error 3`, `ok`, `no`))
}

// TestOneNameOfBoth: P20.2: a pattern and a text of one name are apart.
func TestOneNameOfBoth(t *testing.T) {
	wantTold(t, linesOf(`pattern n a`, `match n n`, `text n ba`, `match n n`, `find n n`, `pattern n b`, `find n n`, `text n -b`, `find n n`, `which n n n`, `first n n`, `replace n n n`, `engine n 1`, `split n n -1`), linesOf(`ok`, `error 200`, `ok`, `yes`, `1 2`, `ok`, `0 1`, `ok`, `1 2`, `0 1`, `0 1 2`, `"-n"`, `ok`, `2 "-" ""`))
}

// TestRefusedAnew: P20.2: a pattern that is refused where its name was given already leaves what it was, its engine too; one whose name was not given is not given it. So does a text that is none.
func TestRefusedAnew(t *testing.T) {
	wantTold(t, linesOf(`pattern p a`, `pattern p (`, `text t a`, `match p t`, `text t \`, `text t \q`, `find p t`, `pattern q (`, `match q t`, `text u \x4`, `match p u`), linesOf(`ok`, `fault 40 at 1`, `ok`, `yes`, `error 200`, `error 200`, `0 1`, `fault 40 at 1`, `error 200`, `error 200`, `error 200`))
	long := strings.Repeat("a", 2000)
	wantTold(t, linesOf(`pattern p (?:a{1000}){10}`, `engine p 2`, `text t `+long, `pattern p [`, `match p t`, `engine p 3`, `match p t`, `engine p 9`, `match p t`), linesOf(`ok`, `ok`, `ok`, `fault 40 at 1`, `error 3`, `error 160`, `error 3`, `error 1`, `error 3`))
	for _, x := range wrongPatterns() {
		wantWithout(t, `pattern p `+x.pattern, x.told()+"\n")
		wantWithout(t, `pattern n `+x.pattern, x.told()+"\n")
	}
}

// TestAnyName: P20.2: a name is any word: a command's, a number, quotes, bytes from 127 on, bytes that are no UTF-8; names are held against each other byte by byte.
func TestAnyName(t *testing.T) {
	names := []string{"p", "P", "pp", "pattern", "text", "match", "-1", "0", "00", "-", "#", "##", `"`, `\`, `\x70`, `\n`, "none", "é", "e\u0301", "\xC3", "\xC3\xA9\xC3", "\xA9", "\xFF", "\xFE", "\xFF\xFE", "\x7F", "\x80", "\uFFFD", "\uFFFE", "\xED\xA0\x80", "\u00A0", "日本", "😀", "\xF0\x9F\x98", "$0", "*", strings.Repeat("n", 1000), strings.Repeat("n", 1001), strings.Repeat("\xFF", 1000)}
	var text, told strings.Builder
	for i, name := range names {
		text.WriteString(linesOf(`pattern `+name+` a{`+itoa(i)+`}b`, `text `+name+` `+strings.Repeat("a", i)+`b`))
		told.WriteString(linesOf(`ok`, `ok`))
	}
	for i, name := range names {
		text.WriteString(linesOf(`find `+name+` `+name, `which `+name+` `+name+` p `+name, `split `+name+` `+name+` -1`))
		told.WriteString(linesOf(`0 `+itoa(i+1), `0 1 2`, `2 "" ""`))
		// The one ahead fits later or nowhere.
		text.WriteString(linesOf(`first ` + name + ` ` + names[(i+1)%len(names)] + ` ` + name))
		told.WriteString(linesOf(`1 0 ` + itoa(i+1)))
	}
	wantTold(t, text.String(), told.String())
	for _, name := range names {
		for _, other := range names {
			want := "error 200\n"
			if name == other {
				want = "yes\n"
			}
			wantTold(t, linesOf(`pattern `+name+` a`, `text t a`, `match `+other+` t`), "ok\nok\n"+want)
			wantTold(t, linesOf(`pattern p a`, `text `+name+` a`, `match p `+other), "ok\nok\n"+want)
		}
	}
}

// TestManyNames: P20.2: as many names as one likes.
func TestManyNames(t *testing.T) {
	var text strings.Builder
	for i := range 3000 {
		text.WriteString(linesOf(`pattern n`+itoa(i)+` `+itoa(i), `text n`+itoa(i)+` -`+itoa(i)))
	}
	ahead := text.String()
	for _, i := range []int{0, 7, 1000, 2999} {
		wantLast(t, ahead, `find n`+itoa(i)+` n`+itoa(i), `1 `+itoa(1+len(itoa(i)))+"\n")
		wantLast(t, ahead, `match n`+itoa(i)+` n`+itoa((i+1)%3000+3000), "error 200\n")
	}
	if got := shell.Do(ahead); got != strings.Repeat("ok\n", 6000) {
		t.Errorf("%s", shown(got))
	}
}
