package shell_test

import (
	"runtime"
	"strings"
	"sync"
	"testing"
	"time"
	"unsafe"
	"weak"

	"heron/api"
	"heron/shell"
)

// texts are some of each kind, short and long.
func texts() []string {
	l := []string{given(), given() + asking(), strings.Repeat("#", api.MaxLine+1), "pattern p (", "\x00"}
	for _, x := range examples() {
		l = append(l, slashed(x[0]))
	}
	return append(l, linesOf(`pattern p (a)|b`, `text t `+strings.Repeat("ab-", 5000), `all p t -1`, `split p t -1`, `replace p t <$1>`, `engine p 4`, `which t p p`, `all p t -1`))
}

// TestNewMemory: W6: an answer shares no memory with the text: it stays, whatever becomes of that.
func TestNewMemory(t *testing.T) {
	for _, text := range texts() {
		want := shell.Do(text)
		memory := []byte(text + "-")
		got := shell.Do(unsafe.String(&memory[0], len(text)))
		if string(memory) != text+"-" {
			t.Errorf("%s: the text has changed", shown(text))
		}
		for i := range memory {
			memory[i] = 'x'
		}
		if got != want {
			t.Errorf("%s: the answer has changed", shown(text))
		}
		if len(got) == 0 {
			continue
		}
		from, begin := uintptr(unsafe.Pointer(&memory[0])), uintptr(unsafe.Pointer(unsafe.StringData(got)))
		if begin < from+uintptr(len(memory)) && from < begin+uintptr(len(got)) {
			t.Errorf("%s: memory is shared", shown(text))
		}
	}
}

// TestNothingKept: W6: the text is not held on to, neither by the package nor by the answer.
func TestNothingKept(t *testing.T) {
	var kept []weak.Pointer[byte]
	var answers []string
	ask := func(text string) {
		memory := []byte(text + strings.Repeat("-", 100))
		kept = append(kept, weak.Make(&memory[0]))
		answers = append(answers, shell.Do(unsafe.String(&memory[0], len(text))))
	}
	for _, text := range texts() {
		ask(text)
	}
	for range 3 {
		runtime.GC()
	}
	for i, w := range kept {
		if w.Value() != nil {
			t.Errorf("the text %d is kept", i)
		}
	}
	runtime.KeepAlive(answers)
}

// TestAgain: W2: no text leaves a name or anything else behind: the same one answers the same, whatever was asked ahead.
func TestAgain(t *testing.T) {
	var want []string
	for _, text := range texts() {
		want = append(want, shell.Do(text))
	}
	for range 3 {
		for i, text := range texts() {
			wantTold(t, `match p t`, "error 200\n")
			wantTold(t, `groups p`, "error 200\n")
			wantTold(t, text, want[i])
		}
	}
}

// TestAtOneTime: W2: many texts that are asked at one time answer what each answers alone.
func TestAtOneTime(t *testing.T) {
	var want []string
	for _, text := range texts() {
		want = append(want, shell.Do(text))
	}
	var group sync.WaitGroup
	for k := range 8 {
		group.Go(func() {
			for i := range want {
				i = (i + k) % len(want)
				if got := shell.Do(texts()[i]); got != want[i] {
					t.Errorf("the text %d: %s; want %s", i, shown(got), shown(want[i]))
				}
			}
		})
	}
	group.Wait()
}

// held is how much memory is in use.
func held() uint64 {
	var m runtime.MemStats
	runtime.GC()
	runtime.GC()
	runtime.ReadMemStats(&m)
	return m.HeapAlloc
}

// TestLittleMemory: what a text needs is given back, though it gave many names to great patterns.
func TestLittleMemory(t *testing.T) {
	var text strings.Builder
	for i := range 50 {
		text.WriteString(linesOf(`pattern p`+itoa(i)+` (?:a{999}){19}`, `text t`+itoa(i)+` `+strings.Repeat("a", 1000)))
	}
	before := held()
	for range 3 {
		wantTold(t, text.String(), strings.Repeat("ok\n", 100))
	}
	if after := held(); after > before+4<<20 {
		t.Errorf("%d bytes are held", after-before)
	}
}

// TestManyLines: W1: texts of as many lines and words as there may be are answered, and in little time.
func TestManyLines(t *testing.T) {
	begin := time.Now()
	const long = api.MaxLine
	wantTold(t, strings.Repeat("\n", long), "")
	wantTold(t, strings.Repeat("x\n", long/2), strings.Repeat("error 200\n", long/2))
	wantTold(t, strings.Repeat("x ", long/2), "error 200\n")
	wantTold(t, strings.Repeat("pattern p\n", long/10), strings.Repeat("ok\n", long/10))
	wantTold(t, "pattern p\ntext t\n"+strings.Repeat("match p t\n", long/10-2), "ok\nok\n"+strings.Repeat("yes\n", long/10-2))
	wantTold(t, "pattern p\ntext t\nwhich t"+strings.Repeat(" p", long/2-13), "ok\nok\nerror 1\n")
	wantTold(t, "text t "+strings.Repeat(`\\`, long/2-4), "ok\n")
	wantTold(t, "text t "+strings.Repeat(" a", long/2-4), "ok\n")
	wantTold(t, "pattern p a\ntext t "+strings.Repeat("a", 90000)+"\nreplace p t "+strings.Repeat("$0", 40000), "ok\nok\nerror 3\n")
	// As many matches, and items of as many offsets, as take long to be told if they are put together each time anew.
	told := shell.Do("pattern p " + strings.Repeat(`()`, 100) + "\ntext t " + strings.Repeat("a", 20000) + "\nall p t -1")
	if count := strings.Count(told, ";"); count != 20000 || !strings.HasSuffix(told, "; "+strings.TrimSuffix(strings.Repeat("20000 ", 202), " ")+"\n") {
		t.Errorf("%d items, %s", count, shown(told))
	}
	if took := time.Since(begin); took > 60*time.Second {
		t.Errorf("it took %v", took)
	}
}
