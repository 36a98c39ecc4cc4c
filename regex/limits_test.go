package regex_test

import (
	"slices"
	"strings"
	"testing"
	"time"

	"heron/api"
)

// TestLengths: P16.3, P16.4, W7: bytes of 0, 1, MaxText and one more; it is the bytes that are counted, not the runes; that they are too many comes ahead of all else.
func TestLengths(t *testing.T) {
	const long = api.MaxText
	for _, unit := range []string{"a", "é", "\xFF", "😀"} {
		b := many(long/len(unit)+1, unit)
		for _, engine := range []int{0, 1, 2, 3, 4} {
			r := with(t, made(t, `\Ab`), engine)
			wantRefused(t, r, b[:long+1], api.ErrLong)
			if l, errno := r.All(b[:long+1], 0); len(l) != 0 || errno != api.ErrLong {
				t.Errorf("%v, %d", l, errno)
			}
			if engine != 2 {
				wantFirst(t, r, b[:long], nil)
				wantSome(t, r, b[:long], nil, 0, -1)
			}
		}
	}
	for _, x := range []example{{`a`, "", nil}, {`a`, "a", pairs(0, 1)}, {`a?`, "", pairs(0, 0)}, {`a?`, "\xC3", pairs(0, 0, 1, 1)}, {`\Aa\z`, "a", pairs(0, 1)}} {
		wantFinds(t, x.pattern, []byte(x.text), x.all...)
	}
}

// TestLongest: P16.3, P16.4, T3, T6: MaxText bytes, in which something is found at the beginning, at the end, everywhere, and nowhere, by each engine that can do it.
func TestLongest(t *testing.T) {
	const long = api.MaxText
	b := many(long, "-")
	copy(b, "ab")
	copy(b[long-4:], "éab")
	for n, x := range []struct {
		pattern string
		all     [][]int
	}{
		{`ab`, pairs(0, 2, long-2, long)},
		{`(a)(b)`, [][]int{{0, 2, 0, 1, 1, 2}, {long - 2, long, long - 2, long - 1, long - 1, long}}},
		{`[^\-]+\z`, pairs(long-4, long)},
		{`\A[^z]*`, pairs(0, long)},
		{`(?:a|b)(?:[^é]*)(é)?`, [][]int{{0, long - 2, long - 4, long - 2}, {long - 2, long, -1, -1}}},
		{`(-+)(?:x|y)`, nil},
		{`\b`, pairs(0, 0, 2, 2, long-2, long-2, long, long)},
		{`-+?é`, pairs(2, long-2)},
	} {
		for _, engine := range []int{0, 4, 1} {
			// It takes the most time.
			if engine == 1 && n%3 > 0 {
				continue
			}
			r := with(t, made(t, x.pattern), engine)
			wantSome(t, r, b, x.all, -1)
			if caps, errno := r.Submatch(b); errno != api.OK || !slices.Equal(caps, headOf(x.all)) {
				t.Errorf("%q by %d: %v, %d; want %v", x.pattern, engine, caps, errno, headOf(x.all))
			}
		}
	}
	// A match at each place.
	each := many(long, "a")
	for _, engine := range []int{0, 4} {
		r := with(t, made(t, `.`), engine)
		all, errno := r.All(each, -1)
		if errno != api.OK || len(all) != long {
			t.Fatalf("%d items, %d", len(all), errno)
		}
		for i, item := range all {
			if item[0] != i || item[1] != i+1 {
				t.Fatalf("%d: %v", i, item)
			}
		}
	}
}

// TestManySteps: T4: patterns whose ways through a text are without number: no search takes more steps than instructions times places, by whatever engine.
func TestManySteps(t *testing.T) {
	for _, pattern := range []string{`(a*)*b`, `(?:a|a)*b`, `(a|aa)+\z-`, `(?:a?){30}a{30}b`, `(?:(?:a*)*)*$b`, `((a+)+)+c`, `(?:a*a*a*a*)*b`} {
		r := made(t, pattern)
		for _, engine := range []int{0, 1, 2, 4} {
			for _, b := range [][]byte{many(100, "a"), many(20000, "a")} {
				began := time.Now()
				wantFirst(t, with(t, r, engine), b, nil)
				wantSome(t, with(t, r, engine), b, nil, -1)
				if took := time.Since(began); took > 20*time.Second {
					t.Errorf("%q by %d: %v", pattern, engine, took)
				}
			}
		}
	}
}

// TestManyStates: T6: automatons of more states than there may be at a time, forward and backward.
func TestManyStates(t *testing.T) {
	var s strings.Builder
	for i := range uint32(30000) {
		// Numbers that come without rule.
		s.WriteByte("ab"[(i*i*2654435761+i*40503)>>15&1])
	}
	for _, pattern := range []string{`[ab]*a[ab]{13}c`, `(?:a[ab]{13})+c`, `a[ab]{14}(?:a|b)a|c[ab]{15}`, `(?:a|b)*?a[ab]{15}\z`} {
		r := made(t, pattern)
		for _, tail := range []string{"", "c"} {
			b := []byte(s.String() + tail)
			want, errno := with(t, r, 1).Submatch(b)
			if errno != api.OK {
				t.Fatalf("%q: %d", pattern, errno)
			}
			for _, engine := range []int{0, 4} {
				wantFirst(t, with(t, r, engine), b, want)
			}
		}
	}
}

// TestGreatClasses: P16.3, T6: classes of as many ranges as there may be, in a loop of many.
func TestGreatClasses(t *testing.T) {
	var runes []rune
	for i := range api.MaxRanges {
		runes = append(runes, rune(0x100+2*i))
	}
	pattern := "(?:[" + string(runes) + "]{20}x)+"
	row := string(runes[:20]) + "x" + string(runes[api.MaxRanges-20:]) + "x"
	b := []byte("-" + string(runes[:50]) + "ā" + row + string(runes[:5]))
	begin := 1 + len(string(runes[:50])) + len("ā")
	for _, r := range byEach(t, made(t, pattern)) {
		wantFirst(t, r, b, []int{begin, begin + len(row)})
		wantAll(t, r, slices.Concat(b, b), pairs(begin, begin+len(row), len(b)+begin, len(b)+begin+len(row)))
	}
}
