package shell_test

import (
	"fmt"
	"strconv"
	"strings"
	"sync"
	"testing"

	"heron/shell"
)

// never is a pattern that fits nowhere: what is replaced by it is the text.
const never = `[^\x{0}-\x{10FFFF}]`

// linesOf are lines as a text, with a byte 10 behind each.
func linesOf(l ...string) string {
	var text strings.Builder
	for _, line := range l {
		text.WriteString(line + "\n")
	}
	return text.String()
}

// itoa is a number in words.
func itoa(n int) string { return strconv.Itoa(n) }

// slashed is a text in which / stands for a byte 10, as in the chapter.
func slashed(text string) string { return strings.ReplaceAll(text, "/", "\n") }

// shown is a text as it is told by a failing test.
func shown(text string) string { return fmt.Sprintf("%.300q (%d)", text, len(text)) }

// wantTold fails, if a text is not answered so.
func wantTold(t testing.TB, text, want string) {
	t.Helper()
	if got := shell.Do(text); got != want {
		t.Errorf("%s: %s; want %s", shown(text), shown(got), shown(want))
	}
}

// wantLast fails, if lines do not tell that at last, behind what those ahead of it tell.
func wantLast(t testing.TB, ahead, line, want string) {
	t.Helper()
	wantTold(t, ahead+line, shell.Do(ahead)+want)
	wantTold(t, ahead+line+"\n", shell.Do(ahead)+want)
}

// given is a text that gives some names; what it tells ends with okay.
func given() string {
	return linesOf(`pattern p a(?P<x>b*)`, `pattern q (c)|\d`, `pattern e `+never, `pattern s \A(?:(a)|b)`, `text t xabb-a`, `text u c\n`, `text v`)
}

// asking is a text whose answer tells all that given has given, and whether names were given that tests give.
func asking() string {
	var l []string
	for _, p := range []string{"p", "q", "e", "s", "n", "t"} {
		l = append(l, `groups `+p, `all `+p+` t -1`, `which u q `+p)
	}
	for _, text := range []string{"t", "u", "v", "n", "p"} {
		l = append(l, `split e `+text+` -1`, `replace p `+text+` <$0>`)
	}
	return linesOf(l...)
}

// wantNothingElse fails, if a line tells anything but error 200, or what was given is not the same behind it.
func wantNothingElse(t testing.TB, line string) {
	t.Helper()
	wantWithout(t, line, "error 200\n")
}

// asked is what given tells, and what asking tells behind it: all that is not to change.
var asked = sync.OnceValues(func() (string, string) {
	ahead := shell.Do(given())
	return ahead, strings.TrimPrefix(shell.Do(given()+asking()), ahead)
})

// wantWithout fails, if a line does not tell that, or what was given is not the same behind it.
func wantWithout(t testing.TB, line, want string) {
	t.Helper()
	ahead, behind := asked()
	wantTold(t, given()+line, ahead+want)
	wantTold(t, given()+line+"\n"+asking(), ahead+want+behind)
}

// TestAsking: that names were given or not is seen in what asking tells.
func TestAsking(t *testing.T) {
	ahead, behind := asked()
	if want := strings.Repeat("ok\n", strings.Count(given(), "\n")); ahead != want || behind != strings.TrimPrefix(modelOf(given()+asking()), want) {
		t.Fatalf("%s, %s", shown(ahead), shown(behind))
	}
	for _, line := range []string{`pattern n a`, `text n a`, `pattern p a`, `text t a`, `pattern t a`, `text p a`, `text v a`, `pattern e a`} {
		if got := shell.Do(given() + line + "\n" + asking()); strings.HasSuffix(got, behind) {
			t.Errorf("%q is not seen", line)
		}
	}
}
