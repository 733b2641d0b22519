package align_test

import (
	"math"
	"math/rand"
	"slices"
	"strings"
	"testing"
	"unicode/utf8"

	"errata/align"
	"errata/api"
	"errata/runes"
)

// noTexts are bytes that are no text.
var noTexts = []string{"\x80", "\xff", "a\xff", "\xffa", "a\xc3", "\xc0\x80", "\xed\xa0\x80", "\xf4\x90\x80\x80", "ab\xe2\x82"}

// noRunes are numbers that are no rune.
var noRunes = []int32{math.MinInt32, -2, -1, 0xD800, 0xDBFF, 0xDFFF, 0x110000, math.MaxInt32}

// someRunes are runes of each length, the edges among them.
var someRunes = []int32{0, 1, 'a', 0x7F, 0x80, 0x7FF, 0x800, 0xD7FF, 0xE000, 0xFFFD, 0xFFFF, 0x10000, 0x10FFFF}

func same(a int32) api.Step   { return api.Step{Kind: api.Match, A: a, B: a} }
func sub(a, b int32) api.Step { return api.Step{Kind: api.Sub, A: a, B: b} }
func del(a int32) api.Step    { return api.Step{Kind: api.Delete, A: a} }
func ins(b int32) api.Step    { return api.Step{Kind: api.Insert, B: b} }

func wantAligned(t *testing.T, a, b string, want []api.Step, n int) {
	t.Helper()
	if l, err := align.Steps(a, b); !slices.Equal(l, want) || err != api.OK {
		t.Errorf("Steps(%q, %q) = %v, %v; want %v", a, b, l, err, want)
	}
	if d, err := align.Distance(a, b); d != n || err != api.OK {
		t.Errorf("Distance(%q, %q) = %v, %v; want %v", a, b, d, err, n)
	}
}

func wantNone(t *testing.T, a, b string, want api.Errno) {
	t.Helper()
	if l, err := align.Steps(a, b); len(l) != 0 || err != want {
		t.Errorf("Steps(%.40q, %.40q) = %v, %v; want %v", a, b, l, err, want)
	}
	if d, err := align.Distance(a, b); d != 0 || err != want {
		t.Errorf("Distance(%.40q, %.40q) = %v, %v; want %v", a, b, d, err, want)
	}
}

func wantRead(t *testing.T, l []api.Step, a, b string, want api.Errno) {
	t.Helper()
	if x, y, err := align.Read(l); x != a || y != b || err != want {
		t.Errorf("Read(%v) = %q, %q, %v; want %q, %q, %v", l, x, y, err, a, b, want)
	}
	if err := align.Check(l); err != want {
		t.Errorf("Check(%v) = %v; want %v", l, err, want)
	}
}

func distance(t *testing.T, a, b string) int {
	t.Helper()
	d, err := align.Distance(a, b)
	if err != api.OK {
		t.Fatalf("Distance(%q, %q): %v", a, b, err)
	}
	return d
}

// P4.1: ordinary tokens, with those that the document tells.
func TestSteps(t *testing.T) {
	wantAligned(t, "rn", "m", []api.Step{del('r'), sub('n', 'm')}, 2)
	wantAligned(t, "m", "rn", []api.Step{ins('r'), sub('m', 'n')}, 2)
	wantAligned(t, "arn", "am", []api.Step{same('a'), del('r'), sub('n', 'm')}, 2)
	wantAligned(t, "ab", "b", []api.Step{del('a'), same('b')}, 1)
	wantAligned(t, "b", "ab", []api.Step{ins('a'), same('b')}, 1)
	wantAligned(t, "a", "ab", []api.Step{same('a'), ins('b')}, 1)
	wantAligned(t, "ab", "a", []api.Step{same('a'), del('b')}, 1)
	wantAligned(t, "a", "a", []api.Step{same('a')}, 0)
	wantAligned(t, "a", "b", []api.Step{sub('a', 'b')}, 1)
}

// P4.1: which one it is, where several have as few steps.
func TestWhichAlignment(t *testing.T) {
	// A match at the end stands ahead of a deletion there.
	wantAligned(t, "aa", "a", []api.Step{del('a'), same('a')}, 1)
	wantAligned(t, "a", "aa", []api.Step{ins('a'), same('a')}, 1)
	// A substitution stands ahead of deleting and inserting.
	wantAligned(t, "ab", "ba", []api.Step{sub('a', 'b'), sub('b', 'a')}, 2)
	wantAligned(t, "abcd", "cdab", []api.Step{sub('a', 'c'), sub('b', 'd'), sub('c', 'a'), sub('d', 'b')}, 4)
	// A deletion at the end stands ahead of an insertion there.
	wantAligned(t, "abba", "baab", []api.Step{ins('b'), same('a'), sub('b', 'a'), same('b'), del('a')}, 3)
	// Neither stands where it would take more steps in all.
	wantAligned(t, "abc", "bca", []api.Step{del('a'), same('b'), same('c'), ins('a')}, 2)
	wantAligned(t, "cabb", "bcab", []api.Step{ins('b'), same('c'), same('a'), del('b'), same('b')}, 2)
}

// P4.1: runes are counted, not bytes, and none is special.
func TestRunesNotBytes(t *testing.T) {
	wantAligned(t, "r\u00e4t", "rat", []api.Step{same('r'), sub(0xE4, 'a'), same('t')}, 1)
	wantAligned(t, "\u00e4", "\u00c4", []api.Step{sub(0xE4, 0xC4)}, 1)
	wantAligned(t, "\U0001f600", "\u20ac\ufffd", []api.Step{ins(0x20AC), sub(0x1F600, 0xFFFD)}, 2)
	wantAligned(t, "\x00", "\x00", []api.Step{same(0)}, 0)
	wantAligned(t, "\x00a", "a", []api.Step{del(0), same('a')}, 1)
	wantAligned(t, "a", "\x00a", []api.Step{ins(0), same('a')}, 1)
	wantAligned(t, "\x00", " ", []api.Step{sub(0, ' ')}, 1)
	for _, a := range someRunes {
		for _, b := range someRunes {
			want, n := []api.Step{sub(a, b)}, 1
			if a == b {
				want, n = []api.Step{same(a)}, 0
			}
			wantAligned(t, string(a), string(b), want, n)
		}
	}
}

// P4.1: tokens of as many runes as there may be.
func TestLongTokens(t *testing.T) {
	for _, r := range []int32{'a', 0xE4, 0x10FFFF} {
		whole := strings.Repeat(string(r), api.MaxToken)
		wantAligned(t, whole, whole, slices.Repeat([]api.Step{same(r)}, api.MaxToken), 0)
		wantAligned(t, whole, strings.Repeat("b", api.MaxToken), slices.Repeat([]api.Step{sub(r, 'b')}, api.MaxToken), api.MaxToken)
		shorter := slices.Repeat([]api.Step{del(r)}, api.MaxToken)
		shorter[api.MaxToken-1] = same(r)
		wantAligned(t, whole, string(r), shorter, api.MaxToken-1)
		longer := slices.Repeat([]api.Step{ins(r)}, api.MaxToken)
		longer[api.MaxToken-1] = same(r)
		wantAligned(t, string(r), whole, longer, api.MaxToken-1)
	}
}

// P4.1: the error is Token's, and that of noisy is told first.
func TestNoTokens(t *testing.T) {
	long := strings.Repeat("\u00e4", api.MaxToken+1)
	wrong := append([]string{"", long, long + "\xff"}, noTexts...)
	for _, s := range wrong {
		_, want := runes.Token(s)
		if want == api.OK {
			t.Fatalf("%q is a token", s)
		}
		wantNone(t, s, "a", want)
		wantNone(t, "a", s, want)
		for _, u := range wrong {
			wantNone(t, s, u, want)
		}
	}
	wantNone(t, "", "\xff", api.ErrEmpty)
	wantNone(t, "\xff", "", api.ErrUTF)
	wantNone(t, long, "\xff", api.ErrLong)
	wantNone(t, long, "", api.ErrLong)
}

// ways is all alignments of two rows of runes, their steps told from the end on.
func ways(a, b []int32) [][]api.Step {
	if len(a)+len(b) == 0 {
		return [][]api.Step{nil}
	}
	var all [][]api.Step
	add := func(s api.Step, ahead [][]api.Step) {
		for _, w := range ahead {
			all = append(all, append([]api.Step{s}, w...))
		}
	}
	i, j := len(a)-1, len(b)-1
	if i >= 0 && j >= 0 && a[i] == b[j] {
		add(same(a[i]), ways(a[:i], b[:j]))
	}
	if i >= 0 && j >= 0 && a[i] != b[j] {
		add(sub(a[i], b[j]), ways(a[:i], b[:j]))
	}
	if i >= 0 {
		add(del(a[i]), ways(a[:i], b))
	}
	if j >= 0 {
		add(ins(b[j]), ways(a, b[:j]))
	}
	return all
}

func stepsOff(l []api.Step) int {
	n := 0
	for _, s := range l {
		if s.Kind != api.Match {
			n++
		}
	}
	return n
}

// first compares two alignments: by how few steps they have, then by the kinds from the end on.
func first(a, b []api.Step) int {
	if n := stepsOff(a) - stepsOff(b); n != 0 {
		return n
	}
	return slices.CompareFunc(a, b, func(x, y api.Step) int { return x.Kind - y.Kind })
}

// tokensUpTo is all tokens of at most n runes of some.
func tokensUpTo(n int, of string) []string {
	var all []string
	last := []string{""}
	for range n {
		var next []string
		for _, s := range last {
			for _, r := range of {
				next = append(next, s+string(r))
			}
		}
		all, last = append(all, next...), next
	}
	return all
}

// P4.1: every pair of short tokens, against all the alignments that there are.
func TestAgainstAllAlignments(t *testing.T) {
	tokens := append(tokensUpTo(4, "ab"), tokensUpTo(3, "a\u00e4\x00")...)
	for _, a := range tokens {
		for _, b := range tokens {
			want := slices.MinFunc(ways([]int32(a), []int32(b)), first)
			slices.Reverse(want)
			wantAligned(t, a, b, want, stepsOff(want))
		}
	}
}

// randomToken is a token of 1 to n runes of few letters, so that there are matches.
func randomToken(r *rand.Rand, n int) string {
	letters := []int32{'a', 'b', 0xE4, 0x20AC, 0x1F600}
	kinds := 1 + r.Intn(len(letters))
	l := make([]int32, 1+r.Intn(n))
	for i := range l {
		l[i] = letters[r.Intn(kinds)]
	}
	return string(l)
}

// fewest is the distance of two rows of runes, kept row by row.
func fewest(a, b []int32) int {
	row := make([]int, len(b)+1)
	for j := range row {
		row[j] = j
	}
	for i, x := range a {
		next := []int{i + 1}
		for j, y := range b {
			n := row[j]
			if x != y {
				n++
			}
			next = append(next, min(n, row[j+1]+1, next[j]+1))
		}
		row = next
	}
	return row[len(b)]
}

// P4.1: longer tokens: each step, from the end on, is the first that leaves as few ahead.
func TestStepsFromTheEndOn(t *testing.T) {
	r := rand.New(rand.NewSource(4))
	for range 150 {
		a, b := randomToken(r, api.MaxToken), randomToken(r, api.MaxToken)
		l, err := align.Steps(a, b)
		if err != api.OK || stepsOff(l) != fewest([]int32(a), []int32(b)) || stepsOff(l) != distance(t, a, b) {
			t.Fatalf("Steps(%q, %q) = %v, %v", a, b, l, err)
		}
		x, y := []int32(a), []int32(b)
		for _, s := range slices.Backward(l) {
			if want := lastStep(x, y); s != want {
				t.Fatalf("Steps(%q, %q): %v; want %v behind %q, %q", a, b, s, want, string(x), string(y))
			}
			if s.Kind != api.Insert {
				x = x[:len(x)-1]
			}
			if s.Kind != api.Delete {
				y = y[:len(y)-1]
			}
		}
		if len(x)+len(y) != 0 {
			t.Fatalf("Steps(%q, %q): %q, %q are left", a, b, string(x), string(y))
		}
	}
}

// lastStep is the last step of the alignment of two rows of runes.
func lastStep(a, b []int32) api.Step {
	i, j, all := len(a)-1, len(b)-1, fewest(a, b)
	switch {
	case i >= 0 && j >= 0 && a[i] == b[j] && fewest(a[:i], b[:j]) == all:
		return same(a[i])
	case i >= 0 && j >= 0 && a[i] != b[j] && fewest(a[:i], b[:j])+1 == all:
		return sub(a[i], b[j])
	case i >= 0 && fewest(a[:i], b)+1 == all:
		return del(a[i])
	case j >= 0:
		return ins(b[j])
	}
	return api.Step{Kind: -1}
}

// P4.2: steps that may be.
func TestRead(t *testing.T) {
	wantRead(t, nil, "", "", api.OK)
	wantRead(t, []api.Step{}, "", "", api.OK)
	wantRead(t, []api.Step{same('a'), del('r'), sub('n', 'm')}, "arn", "am", api.OK)
	wantRead(t, []api.Step{del('a'), del(0xE4)}, "a\u00e4", "", api.OK)
	wantRead(t, []api.Step{ins('a'), ins(0x20AC)}, "", "a\u20ac", api.OK)
	// Steps may be that are no alignment of as few, or of no token.
	wantRead(t, []api.Step{del('a'), ins('a')}, "a", "a", api.OK)
	wantRead(t, slices.Repeat([]api.Step{same('a')}, 1000), strings.Repeat("a", 1000), strings.Repeat("a", 1000), api.OK)
	for _, a := range someRunes {
		wantRead(t, []api.Step{same(a)}, string(a), string(a), api.OK)
		wantRead(t, []api.Step{del(a)}, string(a), "", api.OK)
		wantRead(t, []api.Step{ins(a)}, "", string(a), api.OK)
		for _, b := range someRunes {
			if a != b {
				wantRead(t, []api.Step{sub(a, b)}, string(a), string(b), api.OK)
			}
		}
	}
}

// wantWrong asks for ErrForm of a step, wherever it stands.
func wantWrong(t *testing.T, s api.Step) {
	t.Helper()
	fine := []api.Step{same('a'), sub('b', 'c'), del('d'), ins('e')}
	for at := range len(fine) + 1 {
		wantRead(t, slices.Insert(slices.Clone(fine), at, s), "", "", api.ErrForm)
	}
	wantRead(t, []api.Step{s}, "", "", api.ErrForm)
}

// P4.2: steps that may not be.
func TestWrongSteps(t *testing.T) {
	for _, kind := range []int{math.MinInt, -1, 4, 5, 256, 1 << 32, math.MaxInt} {
		for _, x := range [][2]int32{{0, 0}, {'a', 'a'}, {'a', 'b'}, {'a', 0}, {0, 'a'}} {
			wantWrong(t, api.Step{Kind: kind, A: x[0], B: x[1]})
		}
	}
	for _, a := range someRunes {
		wantWrong(t, sub(a, a))
		for _, b := range append(slices.Clone(someRunes), noRunes...) {
			if a != b {
				wantWrong(t, api.Step{Kind: api.Match, A: a, B: b})
				wantWrong(t, api.Step{Kind: api.Match, A: b, B: a})
			}
			if b != 0 {
				wantWrong(t, api.Step{Kind: api.Delete, A: a, B: b})
				wantWrong(t, api.Step{Kind: api.Insert, A: b, B: a})
			}
		}
	}
}

// P4.2: numbers that are no runes.
func TestStepsOfNoRunes(t *testing.T) {
	for _, a := range noRunes {
		wantWrong(t, same(a))
		wantWrong(t, sub(a, 'b'))
		wantWrong(t, sub('b', a))
		wantWrong(t, sub(a, a))
		wantWrong(t, del(a))
		wantWrong(t, ins(a))
		for _, b := range noRunes {
			wantWrong(t, sub(a, b))
		}
	}
}

// P4.2: each kind but Match costs, steps that may not be as well.
func TestCost(t *testing.T) {
	for _, c := range []struct {
		l []api.Step
		n int
	}{
		{nil, 0}, {[]api.Step{}, 0}, {[]api.Step{{}}, 0}, {[]api.Step{same('a'), same('b')}, 0},
		{[]api.Step{sub('a', 'b')}, 1}, {[]api.Step{del('a')}, 1}, {[]api.Step{ins('a')}, 1},
		{[]api.Step{same('a'), del('r'), sub('n', 'm'), ins('x'), same('b')}, 3},
		{[]api.Step{{Kind: -1}, {Kind: 4}, {Kind: math.MaxInt}, {Kind: math.MinInt}, {Kind: 1 << 32}}, 5},
		{[]api.Step{{Kind: api.Match, A: 'a', B: 'b'}, {Kind: api.Match, A: -1, B: -1}}, 0},
		{slices.Repeat([]api.Step{del('a'), same('b')}, 100000), 100000},
	} {
		if n := align.Cost(c.l); n != c.n {
			t.Errorf("Cost(%.100v) = %d; want %d", c.l, n, c.n)
		}
	}
}

// P4.3: the steps of two tokens may be, and are of these.
func TestStepsAreOfTheTokens(t *testing.T) {
	r := rand.New(rand.NewSource(43))
	for range 300 {
		a, b := randomToken(r, api.MaxToken), randomToken(r, api.MaxToken)
		l, err := align.Steps(a, b)
		if err != api.OK || align.Cost(l) != distance(t, a, b) {
			t.Fatalf("Steps(%q, %q): %v, %v", a, b, l, err)
		}
		wantRead(t, l, a, b, api.OK)
	}
}

// P4.3: a distance is the same both ways, 0 of the same alone, and not more by a way over a third one.
func TestDistances(t *testing.T) {
	r := rand.New(rand.NewSource(433))
	tokens := tokensUpTo(3, "ab")
	for range 40 {
		tokens = append(tokens, randomToken(r, 8), randomToken(r, api.MaxToken))
	}
	d := make([][]int, len(tokens))
	for i, a := range tokens {
		for _, b := range tokens {
			d[i] = append(d[i], distance(t, a, b))
		}
	}
	for i, a := range tokens {
		for j, b := range tokens {
			if d[i][j] != d[j][i] || (d[i][j] == 0) != (a == b) {
				t.Errorf("%q, %q: %d and %d", a, b, d[i][j], d[j][i])
			}
			for k, c := range tokens {
				if d[i][j] > d[i][k]+d[k][j] {
					t.Errorf("%q, %q: %d, but by %q: %d and %d", a, b, d[i][j], c, d[i][k], d[k][j])
				}
			}
		}
	}
}

// Rule 4: what is handed in is not changed, its spare room included, nor is it kept.
func TestWhatIsHandedInStays(t *testing.T) {
	whole := []api.Step{same('a'), del('r'), sub('n', 'm'), {Kind: 9, A: 9, B: 9}}
	kept := slices.Clone(whole)
	l := whole[:3]
	a, b, err := align.Read(l)
	if align.Check(l) != api.OK || align.Cost(l) != 2 || err != api.OK || !slices.Equal(whole, kept) {
		t.Error(whole)
	}
	clear(whole)
	if a != "arn" || b != "am" {
		t.Errorf("%q, %q", a, b)
	}
}

// Rule 4, rule 5: an answer is new memory, and hangs on the arguments alone.
func TestAnswersAreNew(t *testing.T) {
	want := []api.Step{del('r'), sub('n', 'm')}
	a, _ := align.Steps("rn", "m")
	b, _ := align.Steps("rn", "m")
	clear(a)
	_ = append(a, ins('x'))
	if c, _ := align.Steps("rn", "m"); !slices.Equal(b, want) || !slices.Equal(c, want) {
		t.Error(b, c)
	}
}

// P1, P4.1, P4.3: whatever the bytes are, a call answers, and what it aligns is read as it was.
func FuzzSteps(f *testing.F) {
	f.Add("rn", "m")
	f.Add("\x00", "\u00e4")
	f.Add("\xff", "")
	f.Add("", "a")
	f.Fuzz(func(t *testing.T, a, b string) {
		_, want := runes.Token(a)
		if want == api.OK {
			_, want = runes.Token(b)
		}
		if want != api.OK {
			wantNone(t, a, b, want)
			return
		}
		l, err := align.Steps(a, b)
		if err != api.OK || align.Cost(l) != fewest([]int32(a), []int32(b)) {
			t.Fatalf("Steps(%q, %q) = %v, %v", a, b, l, err)
		}
		wantRead(t, l, a, b, api.OK)
	})
}

// P1, P4.2: whatever a step holds, a call answers.
func FuzzRead(f *testing.F) {
	f.Add(0, int32('a'), int32('a'))
	f.Add(1, int32('a'), int32('b'))
	f.Add(2, int32(0x10FFFF), int32(0))
	f.Add(3, int32(0), int32(0xD800))
	f.Add(4, int32(0), int32(0))
	f.Fuzz(func(t *testing.T, kind int, a, b int32) {
		s := api.Step{Kind: kind, A: a, B: b}
		may, read, should := false, string(a), string(b)
		switch kind {
		case api.Match:
			may = a == b
		case api.Sub:
			may = a != b
		case api.Delete:
			may, should = b == 0, ""
		case api.Insert:
			may, read = a == 0, ""
		}
		if may && utf8.ValidRune(a) && utf8.ValidRune(b) {
			wantRead(t, []api.Step{s}, read, should, api.OK)
		} else {
			wantRead(t, []api.Step{s}, "", "", api.ErrForm)
		}
	})
}
