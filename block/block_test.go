package block_test

import (
	"math"
	"math/rand"
	"slices"
	"strings"
	"testing"
	"unicode/utf8"

	"errata/align"
	"errata/api"
	"errata/block"
)

// noTexts are bytes that are no text.
var noTexts = []string{"\x80", "\xff", "a\xff", "\xffa", "a\xc3", "\xc0\x80", "\xed\xa0\x80", "\xf4\x90\x80\x80", "ab\xe2\x82", "abcd\xff"}

func same(a int32) api.Step   { return api.Step{Kind: api.Match, A: a, B: a} }
func sub(a, b int32) api.Step { return api.Step{Kind: api.Sub, A: a, B: b} }
func del(a int32) api.Step    { return api.Step{Kind: api.Delete, A: a} }
func ins(b int32) api.Step    { return api.Step{Kind: api.Insert, B: b} }

func once(from, to string) api.Block { return api.Block{From: from, To: to, N: 1} }

func wantOf(t *testing.T, l []api.Step, want []api.Block, long int) {
	t.Helper()
	if got, err := block.Of(l); !slices.Equal(got, want) || err != api.OK {
		t.Errorf("Of(%v) = %v, %v; want %v", l, got, err, want)
	}
	if n, err := block.Long(l); n != long || err != api.OK {
		t.Errorf("Long(%v) = %v, %v; want %v", l, n, err, long)
	}
}

func wantPair(t *testing.T, a, b string, want []api.Block, long int) {
	t.Helper()
	if got, err := block.Pair(a, b); !slices.Equal(got, want) || err != api.OK {
		t.Errorf("Pair(%q, %q) = %v, %v; want %v", a, b, got, err, want)
	}
	l, err := align.Steps(a, b)
	if err != api.OK {
		t.Fatalf("Steps(%q, %q): %v", a, b, err)
	}
	wantOf(t, l, want, long)
}

func wantNoSteps(t *testing.T, l []api.Step) {
	t.Helper()
	if got, err := block.Of(l); len(got) != 0 || err != api.ErrForm {
		t.Errorf("Of(%v) = %v, %v", l, got, err)
	}
	if n, err := block.Long(l); n != 0 || err != api.ErrForm {
		t.Errorf("Long(%v) = %v, %v", l, n, err)
	}
}

func wantNoPair(t *testing.T, a, b string, want api.Errno) {
	t.Helper()
	if got, err := block.Pair(a, b); len(got) != 0 || err != want {
		t.Errorf("Pair(%.40q, %.40q) = %v, %v; want %v", a, b, got, err, want)
	}
}

// P5.1: ordinary tokens, with those that the document tells.
func TestPair(t *testing.T) {
	wantPair(t, "arn", "am", []api.Block{once("rn", "m")}, 0)
	wantPair(t, "rn", "m", []api.Block{once("rn", "m")}, 0)
	wantPair(t, "am", "arn", []api.Block{once("m", "rn")}, 0)
	wantPair(t, "rna", "ma", []api.Block{once("rn", "m")}, 0)
	wantPair(t, "xay", "bac", []api.Block{once("x", "b"), once("y", "c")}, 0)
	wantPair(t, "ab", "b", []api.Block{once("a", "")}, 0)
	wantPair(t, "a", "ab", []api.Block{once("", "b")}, 0)
	wantPair(t, "r\u00e4t", "rat", []api.Block{once("\u00e4", "a")}, 0)
	wantPair(t, "a\x00b", "ab", []api.Block{once("\x00", "")}, 0)
	wantPair(t, "ab", "a\x00b", []api.Block{once("", "\x00")}, 0)
}

// P5.1: blocks stand as their rows do, each one by itself: none is put together with an equal one, or sorted.
func TestAsTheyStand(t *testing.T) {
	wantPair(t, "zaxazb", "yawayb", []api.Block{once("z", "y"), once("x", "w"), once("z", "y")}, 0)
	wantOf(t, []api.Step{sub('b', 'a'), same('x'), sub('a', 'b'), same('x'), sub('b', 'a')}, []api.Block{once("b", "a"), once("a", "b"), once("b", "a")}, 0)
	wantOf(t, []api.Step{ins('a'), same('x'), same('x'), del('b')}, []api.Block{once("", "a"), once("b", "")}, 0)
}

// P5.1: a row goes over all kinds of steps but matches, and what it is read as is in the order of the steps.
func TestRows(t *testing.T) {
	wantOf(t, nil, nil, 0)
	wantOf(t, []api.Step{}, nil, 0)
	wantOf(t, []api.Step{same('a'), same('b')}, nil, 0)
	wantOf(t, []api.Step{del('a'), ins('b')}, []api.Block{once("a", "b")}, 0)
	wantOf(t, []api.Step{ins('b'), del('a')}, []api.Block{once("a", "b")}, 0)
	wantOf(t, []api.Step{same('x'), del('a'), sub('b', 'c'), ins('d'), sub('e', 'f'), same('x')}, []api.Block{once("abe", "cdf")}, 0)
	wantOf(t, []api.Step{del('a'), same('x'), ins('b')}, []api.Block{once("a", ""), once("", "b")}, 0)
	wantOf(t, []api.Step{same(0), del(0), same(0), ins(0), same(0), sub(0, 0x10FFFF)}, []api.Block{once("\x00", ""), once("", "\x00"), once("\x00", "\U0010ffff")}, 0)
}

// P5.1: runes of each side are counted, not steps and not bytes.
func TestTooLong(t *testing.T) {
	for _, r := range []int32{0, 'a', 0xE4, 0x20AC, 0x10FFFF} {
		three, four := slices.Repeat([]api.Step{del(r)}, 3), slices.Repeat([]api.Step{del(r)}, 4)
		wantOf(t, three, []api.Block{once(strings.Repeat(string(r), 3), "")}, 0)
		wantOf(t, four, nil, 1)
		three, four = slices.Repeat([]api.Step{ins(r)}, 3), slices.Repeat([]api.Step{ins(r)}, 4)
		wantOf(t, three, []api.Block{once("", strings.Repeat(string(r), 3))}, 0)
		wantOf(t, four, nil, 1)
		three, four = slices.Repeat([]api.Step{sub(r, 'b')}, 3), slices.Repeat([]api.Step{sub(r, 'b')}, 4)
		wantOf(t, three, []api.Block{once(strings.Repeat(string(r), 3), "bbb")}, 0)
		wantOf(t, four, nil, 1)
	}
	six := []api.Step{del('a'), del('b'), del('c'), ins('d'), ins('e'), ins('f')}
	wantOf(t, six, []api.Block{once("abc", "def")}, 0)
	wantOf(t, append(six, ins('g')), nil, 1)
	wantOf(t, append(six, del('g')), nil, 1)
	wantPair(t, "wxyz", "abcd", nil, 1)
	wantPair(t, "abcd", "d", []api.Block{once("abc", "")}, 0)
	wantPair(t, "abcde", "e", nil, 1)
	wantPair(t, strings.Repeat("a", api.MaxToken), strings.Repeat("b", api.MaxToken), nil, 1)
}

// P5.1: one that is too long is left out, and those around it are not.
func TestTooLongAmongOthers(t *testing.T) {
	long := slices.Repeat([]api.Step{sub('a', 'b')}, 4)
	l := slices.Concat([]api.Step{sub('x', 'y'), same('-')}, long, []api.Step{same('-'), ins('z'), same('-')}, long)
	wantOf(t, l, []api.Block{once("x", "y"), once("", "z")}, 2)
	wantPair(t, "aXbWXYZ", "aybabcd", []api.Block{once("X", "y")}, 1)
}

// P5.1: a block whose sides are the same is none of Of; too long it is, if it has too many runes.
func TestSameSides(t *testing.T) {
	wantOf(t, []api.Step{del('a'), ins('a')}, nil, 0)
	wantOf(t, []api.Step{sub('a', 'b'), del('b'), ins('a'), same('x'), sub('b', 'a')}, []api.Block{once("ab", "ba"), once("b", "a")}, 0)
	wantOf(t, []api.Step{ins('a'), sub('a', 'b'), del('b'), same('x'), del('c')}, []api.Block{once("c", "")}, 0)
	var l []api.Step
	for i, r := range []int32{'a', 0xE4, 'c', 'd'} {
		l = append(l, del(r), ins(r))
		wantOf(t, l, nil, max(i-2, 0))
	}
}

// P5.1: more steps than a token has runes.
func TestManySteps(t *testing.T) {
	l := slices.Repeat([]api.Step{sub('a', 'b'), same('x'), del('c'), same('x')}, 5000)
	wantOf(t, l, slices.Repeat([]api.Block{once("a", "b"), once("c", "")}, 5000), 0)
	wantOf(t, slices.Repeat([]api.Step{sub('a', 'b')}, 100000), nil, 1)
	five := slices.Repeat([]api.Step{del('a'), del('b'), del('c'), del('d'), same('x')}, 5000)
	wantOf(t, five, nil, 5000)
}

// P5.1: layer 4's error, wherever the step stands that may not be.
func TestNoSteps(t *testing.T) {
	wrong := []api.Step{
		{Kind: 4}, {Kind: 9}, {Kind: -1}, {Kind: math.MinInt}, {Kind: math.MaxInt},
		{Kind: api.Match, A: 'a', B: 'b'}, {Kind: api.Match, A: 'a'}, sub('a', 'a'), sub(0, 0),
		{Kind: api.Delete, A: 'a', B: 'b'}, {Kind: api.Insert, A: 'a', B: 'b'},
	}
	for _, r := range []int32{math.MinInt32, -1, 0xD800, 0xDFFF, 0x110000, math.MaxInt32} {
		wrong = append(wrong, same(r), sub(r, 'a'), sub('a', r), del(r), ins(r))
	}
	right := []api.Step{sub('a', 'b'), same('x'), del('a'), del('b'), del('c'), del('d'), same('x'), ins('a')}
	for _, s := range wrong {
		wantNoSteps(t, []api.Step{s})
		for i := range len(right) + 1 {
			wantNoSteps(t, slices.Insert(slices.Clone(right), i, s))
		}
	}
}

// P5.1: the error is that of Steps, and that of noisy is told first.
func TestNoPair(t *testing.T) {
	long := strings.Repeat("\u00e4", api.MaxToken+1)
	wantNoPair(t, "", "a", api.ErrEmpty)
	wantNoPair(t, "a", "", api.ErrEmpty)
	wantNoPair(t, "", "", api.ErrEmpty)
	wantNoPair(t, long, "a", api.ErrLong)
	wantNoPair(t, "a", long, api.ErrLong)
	wantNoPair(t, long, long, api.ErrLong)
	wantNoPair(t, "", "\xff", api.ErrEmpty)
	wantNoPair(t, "\xff", "", api.ErrUTF)
	wantNoPair(t, long, "\xff", api.ErrLong)
	for _, s := range noTexts {
		wantNoPair(t, s, "a", api.ErrUTF)
		wantNoPair(t, "a", s, api.ErrUTF)
		wantNoPair(t, s, long, api.ErrUTF)
	}
}

func wantCheck(t *testing.T, from, to string, n int, want api.Errno) {
	t.Helper()
	if err := block.Check(api.Block{From: from, To: to, N: n}); err != want {
		t.Errorf("Check(%.40q, %.40q, %v) = %v; want %v", from, to, n, err, want)
	}
}

// wantCheckBoth is for blocks that may be, or not, either way round.
func wantCheckBoth(t *testing.T, from, to string, n int, want api.Errno) {
	t.Helper()
	wantCheck(t, from, to, n, want)
	wantCheck(t, to, from, n, want)
}

// P5.2: blocks that may be, up to the edges.
func TestCheck(t *testing.T) {
	for _, n := range []int{1, 2, api.MaxCount - 1, api.MaxCount} {
		wantCheckBoth(t, "rn", "m", n, api.OK)
		wantCheckBoth(t, "a", "", n, api.OK)
		wantCheckBoth(t, "\x00", "", n, api.OK)
		wantCheckBoth(t, "\x00", "\x00\x00", n, api.OK)
		wantCheckBoth(t, "abc", "abd", n, api.OK)
		wantCheckBoth(t, "abc", "\u00e4\u20ac\ufffd", n, api.OK)
		wantCheckBoth(t, "\U0010ffff\U0010ffff\U0010ffff", "\U0010ffff\U0010ffff", n, api.OK)
		wantCheckBoth(t, "  ", "-", n, api.OK)
	}
}

// P5.2: the first of the errors is told.
func TestCheckErrors(t *testing.T) {
	counts := []int{math.MinInt, -1, 0, 1, api.MaxCount, api.MaxCount + 1, math.MaxInt}
	for _, n := range counts {
		for _, s := range noTexts {
			wantCheckBoth(t, s, "a", n, api.ErrUTF)
			wantCheckBoth(t, s, "", n, api.ErrUTF)
			wantCheckBoth(t, s, "abcd", n, api.ErrUTF)
			wantCheck(t, s, s, n, api.ErrUTF)
		}
		for _, s := range []string{"abcd", "\u00e4\u00e4\u00e4\u00e4", "\x00\x00\x00\x00", strings.Repeat("a", 100000)} {
			wantCheckBoth(t, s, "a", n, api.ErrLong)
			wantCheckBoth(t, s, "", n, api.ErrLong)
			wantCheck(t, s, s, n, api.ErrLong)
		}
		for _, s := range []string{"", "a", "\x00", "abc", "\U0010ffff\U0010ffff\U0010ffff"} {
			wantCheck(t, s, s, n, api.ErrForm)
		}
	}
	for _, n := range []int{math.MinInt, -api.MaxCount, -1, 0, api.MaxCount + 1, 1 << 31, 1<<32 + 1, math.MaxInt} {
		wantCheckBoth(t, "a", "b", n, api.ErrArg)
		wantCheckBoth(t, "a", "", n, api.ErrArg)
	}
}

// P5.2: by From, then by To, by their bytes; N isn't looked at.
func TestLess(t *testing.T) {
	inOrder := []api.Block{
		{}, {To: "\x00"}, {To: "a"}, {To: "\xff"},
		{From: "\x00"},
		{From: "Z", To: "a"},
		{From: "a"}, {From: "a", To: "B"}, {From: "a", To: "b"}, {From: "a", To: "ba"}, {From: "a", To: "c"},
		{From: "a\x00"},
		{From: "aa"}, {From: "aa", To: "a"},
		{From: "ab"},
		{From: "b"}, {From: "b", To: "a"},
		{From: "\u00e4"},
		{From: "\uffff"}, {From: "\U00010000"},
		{From: "\xff", To: "\x80"}, {From: "\xff", To: "\xff"},
	}
	counts := []int{math.MinInt, -1, 0, 1, 2, math.MaxInt}
	for i, a := range inOrder {
		for j, b := range inOrder {
			for _, n := range counts {
				for _, m := range counts {
					a.N, b.N = n, m
					if got := block.Less(a, b); got != (i < j) {
						t.Fatalf("Less(%v, %v) = %v", a, b, got)
					}
				}
			}
		}
	}
}

// mayBe says whether a block may be, by the chapter's words.
func mayBe(b api.Block) bool {
	return utf8.ValidString(b.From) && utf8.ValidString(b.To) && len([]rune(b.From)) <= 3 && len([]rune(b.To)) <= 3 && b.From != b.To && b.N >= 1 && b.N <= 1<<30
}

// randomRow is steps that aren't matches, in any order, at least one of them.
func randomRow(r *rand.Rand) (row []api.Step, from, to string) {
	letters := []int32{'a', 'b', 0, 0xE4, 0x1F600}
	for range 1 + r.Intn(6) {
		i, j := r.Intn(len(letters)), r.Intn(len(letters)-1)
		if j >= i {
			j++
		}
		a, b := letters[i], letters[j]
		switch r.Intn(3) {
		case 0:
			row, from, to = append(row, sub(a, b)), from+string(a), to+string(b)
		case 1:
			row, from = append(row, del(a)), from+string(a)
		default:
			row, to = append(row, ins(b)), to+string(b)
		}
	}
	return row, from, to
}

// P5.1: steps laid from rows whose blocks are known.
func TestRowsLaid(t *testing.T) {
	r := rand.New(rand.NewSource(5))
	for range 5000 {
		l := slices.Repeat([]api.Step{same('a')}, r.Intn(3))
		var want []api.Block
		long := 0
		for range r.Intn(6) {
			row, from, to := randomRow(r)
			l = append(append(l, row...), same('b'))
			if len([]rune(from)) > 3 || len([]rune(to)) > 3 {
				long++
			} else if from != to {
				want = append(want, once(from, to))
			}
		}
		wantOf(t, l, want, long)
		if end := len(l) - 1; end >= 0 {
			// Without the match behind the last row, that row is as long.
			wantOf(t, l[:end], want, long)
		}
	}
}

// randomToken is a token of few letters, so that there are matches.
func randomToken(r *rand.Rand) string {
	letters := []int32{'a', 'b', 0xE4, 0x20AC, 0x1F600}
	kinds := 1 + r.Intn(len(letters))
	l := make([]int32, 1+r.Intn(api.MaxToken))
	for i := range l {
		l[i] = letters[r.Intn(kinds)]
	}
	return string(l)
}

// P5.3: each block of an alignment may be, and stands in what was read, one behind the other; tokens that are the same have none.
func TestBlocksOfTokens(t *testing.T) {
	r := rand.New(rand.NewSource(53))
	for range 2000 {
		a, b := randomToken(r), randomToken(r)
		wantPair(t, a, a, nil, 0)
		l, err := block.Pair(a, b)
		if err != api.OK {
			t.Fatalf("Pair(%q, %q): %v", a, b, err)
		}
		read, should := a, b
		for _, x := range l {
			if !mayBe(x) || x.N != 1 || block.Check(x) != api.OK {
				t.Fatalf("Pair(%q, %q): %v", a, b, x)
			}
			_, behind, inRead := strings.Cut(read, x.From)
			_, ahead, inShould := strings.Cut(should, x.To)
			if !inRead || !inShould {
				t.Fatalf("Pair(%q, %q): %v isn't in it", a, b, x)
			}
			read, should = behind, ahead
		}
		steps, _ := align.Steps(a, b)
		if some, err := block.Of(steps); !slices.Equal(some, l) || err != api.OK {
			t.Fatalf("Of(%v) = %v, %v; want %v", steps, some, err, l)
		}
	}
}

// P5.3: among all pairs of short tokens, too; what differs has a block, or one too long.
func TestBlocksOfShortTokens(t *testing.T) {
	var tokens []string
	for _, a := range []string{"", "a", "b", "\u00e4"} {
		for _, b := range []string{"", "a", "b", "c"} {
			for _, c := range []string{"a", "b"} {
				tokens = append(tokens, a+b+c)
			}
		}
	}
	for _, a := range tokens {
		for _, b := range tokens {
			l, err := block.Pair(a, b)
			if err != api.OK || (len(l) == 0) != (a == b) {
				t.Errorf("Pair(%q, %q) = %v, %v", a, b, l, err)
			}
		}
	}
}

// Rule 4: what is handed in is not changed, its spare room included, and not kept.
func TestStepsAreKept(t *testing.T) {
	whole := []api.Step{same('a'), del('r'), sub('n', 'm'), same('x'), ins('b'), ins('c'), same('d')}
	kept := slices.Clone(whole)
	l := whole[:5]
	got, err := block.Of(l)
	if n, errLong := block.Long(l); n != 0 || err != api.OK || errLong != api.OK || !slices.Equal(whole, kept) {
		t.Error(whole, n, err, errLong)
	}
	clear(whole)
	if !slices.Equal(got, []api.Block{once("rn", "m"), once("", "b")}) {
		t.Errorf("%v", got)
	}
}

// Rule 4, rule 5: an answer is new memory, and hangs on the arguments alone.
func TestAnswersAreNew(t *testing.T) {
	want := []api.Block{once("x", "b"), once("y", "c")}
	a, _ := block.Pair("xay", "bac")
	b, _ := block.Pair("xay", "bac")
	clear(a)
	_ = append(a, once("z", ""))
	if c, _ := block.Pair("xay", "bac"); !slices.Equal(b, want) || !slices.Equal(c, want) {
		t.Errorf("%v, %v", b, c)
	}
}

// P1, P5.2: whatever a block holds, a call answers, and OK only of one that may be.
func FuzzCheck(f *testing.F) {
	f.Add("rn", "m", 1)
	f.Add("\xff", "abcd", 0)
	f.Add("a", "a", 1<<30)
	f.Add("", "\u00e4\u00e4\u00e4", 1<<30+1)
	f.Fuzz(func(t *testing.T, from, to string, n int) {
		b := api.Block{From: from, To: to, N: n}
		if err := block.Check(b); (err == api.OK) != mayBe(b) {
			t.Fatalf("Check(%v) = %v", b, err)
		}
		back := api.Block{From: to, To: from, N: n}
		if block.Less(b, back) != (from < to) || block.Less(b, b) {
			t.Fatalf("Less(%v, %v)", b, back)
		}
	})
}

// P1, P5.1, P5.3: whatever is read, a call answers, and each block may be.
func FuzzPair(f *testing.F) {
	f.Add("arn", "am")
	f.Add("\x00", "\u00e4")
	f.Add("\xff", "")
	f.Fuzz(func(t *testing.T, a, b string) {
		steps, want := align.Steps(a, b)
		l, err := block.Pair(a, b)
		if err != want || want != api.OK && len(l) != 0 {
			t.Fatalf("Pair(%q, %q) = %v, %v; want %v", a, b, l, err, want)
		}
		for _, x := range l {
			if !mayBe(x) {
				t.Fatalf("Pair(%q, %q): %v", a, b, x)
			}
		}
		if n, err := block.Long(steps); err != api.OK || len(l)+n == 0 && want == api.OK && a != b {
			t.Fatalf("Long of %q, %q = %v, %v", a, b, n, err)
		}
	})
}
