package walk_test

import (
	"fmt"
	"math"
	"math/rand"
	"slices"
	"strings"
	"testing"
	"unicode/utf8"

	"errata/api"
	"errata/dawg"
	"errata/lexicon"
	"errata/walk"
)

func of(s string, freq int) api.Word { return api.Word{S: s, Freq: freq} }

// words is these in order, each once, with Freqs that tell them apart.
func words(some ...string) []api.Word {
	some = slices.Compact(slices.Sorted(slices.Values(some)))
	var l []api.Word
	for i, s := range some {
		l = append(l, of(s, 1+(i*7919)%api.MaxCount))
	}
	return l
}

// automaton is that of l, which must be normal.
func automaton(t *testing.T, l []api.Word) *dawg.Dawg {
	t.Helper()
	d, err := dawg.New(l)
	if d == nil || err != api.OK {
		t.Fatalf("New(%.200v) = %v; want one", fmt.Sprint(l), err)
	}
	return d
}

func wantState(t *testing.T, d *dawg.Dawg, s string, want int, wantErr api.Errno) {
	t.Helper()
	if at, err := walk.State(d, s); at != want || err != wantErr {
		t.Errorf("State(%.90q) = %v, %v; want %v, %v", s, at, err, want, wantErr)
	}
}

func wantLongest(t *testing.T, d *dawg.Dawg, s, want string, wantErr api.Errno) {
	t.Helper()
	if w, err := walk.Longest(d, s); w != want || err != wantErr {
		t.Errorf("Longest(%.90q) = %q, %v; want %q, %v", s, w, err, want, wantErr)
	}
}

func wantCount(t *testing.T, d *dawg.Dawg, s string, want int, wantErr api.Errno) {
	t.Helper()
	if n, err := walk.Count(d, s); n != want || err != wantErr {
		t.Errorf("Count(%.90q) = %v, %v; want %v, %v", s, n, err, want, wantErr)
	}
}

func wantComplete(t *testing.T, d *dawg.Dawg, s string, k int, want []api.Word, wantErr api.Errno) {
	t.Helper()
	if l, err := walk.Complete(d, s, k); !slices.Equal(l, want) || err != wantErr {
		t.Errorf("Complete(%.90q, %v) = %.200v, %v; want %.200v, %v", s, k, fmt.Sprint(l), err, fmt.Sprint(want), wantErr)
	}
}

func wantSplit(t *testing.T, d *dawg.Dawg, s string, want []string, wantErr api.Errno) {
	t.Helper()
	if l, err := walk.Split(d, s); !slices.Equal(l, want) || err != wantErr {
		t.Errorf("Split(%.90q) = %q, %v; want %q, %v", s, l, err, want, wantErr)
	}
}

// wantError says that each call answers that error, Complete whatever its k is.
func wantError(t *testing.T, d *dawg.Dawg, s string, want api.Errno) {
	t.Helper()
	wantState(t, d, s, 0, want)
	wantLongest(t, d, s, "", want)
	wantCount(t, d, s, 0, want)
	wantSplit(t, d, s, nil, want)
	for _, k := range []int{math.MinInt, -1, 0, 1, api.MaxTop, api.MaxTop + 1, math.MaxInt} {
		wantComplete(t, d, s, k, nil, want)
	}
}

// beginning is the words of l that begin with s.
func beginning(l []api.Word, s string) []api.Word {
	var some []api.Word
	for _, w := range l {
		if strings.HasPrefix(w.S, s) {
			some = append(some, w)
		}
	}
	return some
}

// longest is the longest word of l that s begins with, or the empty text.
func longest(l []api.Word, s string) string {
	long := ""
	for _, w := range l {
		if strings.HasPrefix(s, w.S) && len(w.S) > len(long) {
			long = w.S
		}
	}
	return long
}

// splits is all ways in which s is made of words of l.
func splits(l []api.Word, s string) [][]string {
	if s == "" {
		return [][]string{nil}
	}
	var ways [][]string
	for _, w := range l {
		if rest, found := strings.CutPrefix(s, w.S); found {
			for _, more := range splits(l, rest) {
				ways = append(ways, append([]string{w.S}, more...))
			}
		}
	}
	return ways
}

// better orders ways: the one of fewer words first, of as few the one of which the first word that differs is longer.
func better(a, b []string) int {
	if len(a) != len(b) {
		return len(a) - len(b)
	}
	for i := range a {
		if x, y := utf8.RuneCountInString(a[i]), utf8.RuneCountInString(b[i]); x != y {
			return y - x
		}
	}
	return 0
}

// stepped is where the runes of s lead, one by one.
func stepped(d *dawg.Dawg, s string) (int, api.Errno) {
	at := 0
	for _, r := range s {
		to, err := d.Next(at, r)
		if err != api.OK {
			return 0, err
		}
		at = to
	}
	return at, api.OK
}

// wantWalk says that all calls on the automaton d of l answer by the chapter's words; s is a text that isn't too long.
func wantWalk(t *testing.T, d *dawg.Dawg, l []api.Word, s string) {
	t.Helper()
	at, err := stepped(d, s)
	wantState(t, d, s, at, err)
	if long := longest(l, s); long == "" {
		wantLongest(t, d, s, "", api.ErrNone)
	} else {
		wantLongest(t, d, s, long, api.OK)
	}
	some := beginning(l, s)
	wantCount(t, d, s, len(some), api.OK)
	for _, k := range []int{0, 1, 2, len(some) - 1, len(some), len(some) + 1, api.MaxTop} {
		if k >= 0 && k <= api.MaxTop {
			wantComplete(t, d, s, k, some[:min(k, len(some))], api.OK)
		}
	}
	for _, k := range []int{math.MinInt, -1, api.MaxTop + 1, math.MaxInt} {
		wantComplete(t, d, s, k, nil, api.ErrArg)
	}
	if t.Failed() {
		t.Fatalf("of %.300v", fmt.Sprint(l))
	}
}

// wantLeastSplit says that Split answers the best of all ways; s must be short.
func wantLeastSplit(t *testing.T, d *dawg.Dawg, l []api.Word, s string) {
	t.Helper()
	ways := splits(l, s)
	if len(ways) == 0 {
		wantSplit(t, d, s, nil, api.ErrNone)
	} else {
		wantSplit(t, d, s, slices.MinFunc(ways, better), api.OK)
	}
	if t.Failed() {
		t.Fatalf("of %.300v", fmt.Sprint(l))
	}
}

// P11.1, P11.2: what the document tells.
func TestExample(t *testing.T) {
	d := automaton(t, words("a", "ab", "b"))
	wantLongest(t, d, "abb", "ab", api.OK)
	wantSplit(t, d, "abb", []string{"ab", "b"}, api.OK)
}

// P11.1
func TestState(t *testing.T) {
	d := automaton(t, words("am", "an", "in", "im"))
	for s, want := range map[string]int{"": 0, "a": 1, "i": 1, "am": 2, "an": 2, "im": 2, "in": 2} {
		wantState(t, d, s, want, api.OK)
	}
	for _, s := range []string{"b", "m", "n", "A", "aa", "ama", "amm", "\x00", "a\x00", "\u00e4", "\ufffd", "a\ufffd", strings.Repeat("a", api.MaxToken)} {
		wantState(t, d, s, 0, api.ErrNone)
	}
	// Two beginnings lead to one state just if the rests behind them are the same.
	l := words("acx", "acy", "ad", "b", "cx", "cy", "d", "xb", "xd")
	d = automaton(t, l)
	rests := map[int]string{}
	for _, w := range l {
		for n := range len(w.S) + 1 {
			s := w.S[:n]
			var behind []string
			for _, x := range beginning(l, s) {
				behind = append(behind, x.S[n:])
			}
			at, err := walk.State(d, s)
			if err != api.OK {
				t.Error(s, err)
			}
			if known, found := rests[at]; found && known != fmt.Sprintf("%q", behind) {
				t.Error(s, at, known, behind)
			}
			rests[at] = fmt.Sprintf("%q", behind)
		}
	}
	if len(rests) != d.States() {
		t.Error(rests, d.States())
	}
}

// P11.1
func TestLongest(t *testing.T) {
	l := words("a", "abcde", "b", "ba", "bab", "\u00e4", "\u00e4\u00f6x", "\U0001f600")
	d := automaton(t, l)
	for s, want := range map[string]string{
		"a": "a", "ab": "a", "abcd": "a", "abcdx": "a", "abcde": "abcde", "abcdef": "abcde", "aa": "a",
		"b": "b", "bb": "b", "ba": "ba", "baa": "ba", "bab": "bab", "babab": "bab",
		"\u00e4": "\u00e4", "\u00e4\u00f6": "\u00e4", "\u00e4\u00f6xx": "\u00e4\u00f6x", "\U0001f600\U0001f600": "\U0001f600",
	} {
		wantLongest(t, d, s, want, api.OK)
	}
	// A word that s doesn't begin with, and the empty text, which is no word.
	for _, s := range []string{"", "c", "xa", " a", "\u00e5", "\u00c3\u00a4", "\U0001f601", "\x00", "A"} {
		wantLongest(t, d, s, "", api.ErrNone)
	}
	d = automaton(t, words("ab"))
	wantLongest(t, d, "a", "", api.ErrNone)
	wantLongest(t, d, "aab", "", api.ErrNone)
}

// P11.1
func TestCount(t *testing.T) {
	d := automaton(t, words("a", "ab", "abc", "abd", "b", "bc", "\u00e4", "\u00e4b", "\u00e5"))
	for s, want := range map[string]int{
		"": 9, "a": 4, "ab": 3, "abc": 1, "abd": 1, "b": 2, "bc": 1, "\u00e4": 2, "\u00e4b": 1, "\u00e5": 1,
		"A": 0, "aa": 0, "abb": 0, "abe": 0, "abcd": 0, "bb": 0, "c": 0, "\x00": 0, "\u00e3": 0, "\u00e6": 0, "\U0010ffff": 0,
	} {
		wantCount(t, d, s, want, api.OK)
	}
}

// P11.2
func TestComplete(t *testing.T) {
	l := []api.Word{of("a", 3), of("ab", api.MaxCount), of("abc", 1), of("b", 7), of("bc", 2), of("\u00e4", 9)}
	d := automaton(t, l)
	wantComplete(t, d, "a", 2, l[:2], api.OK)
	wantComplete(t, d, "a", 3, l[:3], api.OK)
	wantComplete(t, d, "a", 4, l[:3], api.OK)
	wantComplete(t, d, "ab", 1, l[1:2], api.OK)
	wantComplete(t, d, "b", api.MaxTop, l[3:5], api.OK)
	wantComplete(t, d, "\u00e4", 5, l[5:], api.OK)
	wantComplete(t, d, "", api.MaxTop, l, api.OK)
	wantComplete(t, d, "", 4, l[:4], api.OK)
	wantComplete(t, d, "", 0, nil, api.OK)
	wantComplete(t, d, "a", 0, nil, api.OK)
	wantComplete(t, d, "x", 3, nil, api.OK)
	wantComplete(t, d, "abcd", 3, nil, api.OK)
	// k is held against its bounds, whatever begins with s.
	for _, s := range []string{"", "a", "x", strings.Repeat("a", api.MaxToken)} {
		for _, k := range []int{math.MinInt, -1, api.MaxTop + 1, math.MaxInt} {
			wantComplete(t, d, s, k, nil, api.ErrArg)
		}
	}
}

// P11.2: the fewest words, then the longer ones first.
func TestSplit(t *testing.T) {
	for _, x := range []struct {
		words, s, want string
	}{
		{"a ab abc b bc", "abca", "abc a"},
		{"a b", "ab", "a b"},
		{"ab", "ababab", "ab ab ab"},
		// The longest word first isn't the way of the fewest.
		{"ab abc cdef d e f", "abcdef", "ab cdef"},
		// After the longest one there is no way on.
		{"ab abc cd e", "abcd", "ab cd"},
		// As few: the first one is longer, then the second one, then the third.
		{"ab abc cd d e", "abcd", "abc d"},
		{"a ab abc bcd cd d", "abcd", "abc d"},
		{"a bc bcd de e", "abcde", "a bcd e"},
		{"a b cd cde ef f", "abcdef", "a b cde f"},
		{"a abc bc bcd de e ef f def", "abcdef", "abc def"},
		{"ab abc c cd d def ef", "abcdef", "abc def"},
		{"ab abc cdefg de defg fg", "abcdefg", "abc defg"},
		// Runes are counted, not bytes, and cut nowhere else.
		{"\u00e4 b\u00e4 ab", "ab\u00e4", "ab \u00e4"},
		{"\u00e4 \u00e4b b\U0001f600 \U0001f600", "\u00e4b\U0001f600", "\u00e4b \U0001f600"},
	} {
		l := words(strings.Fields(x.words)...)
		d := automaton(t, l)
		wantSplit(t, d, x.s, strings.Fields(x.want), api.OK)
		wantLeastSplit(t, d, l, x.s)
	}
	d := automaton(t, words("a", "ab", "abc", "b", "bcd"))
	for _, s := range []string{"c", "ac", "ca", "abx", "xab", "ab ", "a b", "abcc", "cab", "\u00e4", "a\x00", "abcabcabcabcabcc"} {
		wantSplit(t, d, s, nil, api.ErrNone)
	}
	// The empty text is made of no words.
	wantSplit(t, d, "", nil, api.OK)
}

// P1, P11.2: ways of long texts are many, but none is gone twice.
func TestLongSplit(t *testing.T) {
	var some []string
	for n := range 20 {
		some = append(some, strings.Repeat("a", n+1))
	}
	d := automaton(t, words(some...))
	long := strings.Repeat("a", api.MaxToken)
	wantSplit(t, d, long, []string{long[:20], long[:20], long[:20], long[:4]}, api.OK)
	wantSplit(t, d, long[1:]+"b", nil, api.ErrNone)
	wantSplit(t, d, "b"+long[1:], nil, api.ErrNone)
	d = automaton(t, words("a", "aaaaa", "\U0010ffff"))
	wantSplit(t, d, long[:13], []string{"aaaaa", "aaaaa", "a", "a", "a"}, api.OK)
	// As many words as there may be, each of one rune.
	each := slices.Repeat([]string{"\U0010ffff"}, api.MaxToken)
	wantSplit(t, d, strings.Join(each, ""), each, api.OK)
	d = automaton(t, words("a"))
	wantSplit(t, d, long, strings.Split(long, ""), api.OK)
	wantSplit(t, d, long[1:], strings.Split(long[1:], ""), api.OK)
	// One word, as long as it may be.
	d = automaton(t, words("a", long))
	wantSplit(t, d, long, []string{long}, api.OK)
	wantLongest(t, d, long, long, api.OK)
	wantLongest(t, d, long[1:], "a", api.OK)
	wantState(t, d, long, d.States()-1, api.OK)
}

// P11.1, P11.2: without words there is the first state alone.
func TestNoWords(t *testing.T) {
	for _, d := range []*dawg.Dawg{automaton(t, nil), new(dawg.Dawg)} {
		wantState(t, d, "", 0, api.OK)
		wantSplit(t, d, "", nil, api.OK)
		for _, s := range []string{"a", "\x00", "\u00e4", strings.Repeat("a", api.MaxToken)} {
			wantState(t, d, s, 0, api.ErrNone)
			wantSplit(t, d, s, nil, api.ErrNone)
		}
		for _, s := range []string{"", "a", "\u00e4"} {
			wantWalk(t, d, nil, s)
		}
		wantError(t, d, "\xff", api.ErrUTF)
		wantError(t, d, strings.Repeat("a", api.MaxToken+1), api.ErrLong)
	}
}

// P1: of a nil Dawg that is told first.
func TestNil(t *testing.T) {
	for _, s := range []string{"", "a", "\xff", strings.Repeat("a", api.MaxToken+1), strings.Repeat("\xff", 100)} {
		wantError(t, nil, s, api.ErrNil)
	}
}

// P1, P11.1, P11.2: bytes that are no text are told first, then what is too long, then k.
func TestErrors(t *testing.T) {
	long := strings.Repeat("a", api.MaxToken+1)
	d := automaton(t, words("a", "am", "\u00e4", "\ufffd", "\ufffdb", long[1:]))
	for _, s := range []string{
		"\xff", "\x80", "a\xff", "am\xff", "\xffa", "\xc3", "\xc3a", "\xa4", "\u00e4\xa4", "\xed\xa0\x80", "\xc0\x80", "\xf4\x90\x80\x80", "\xef\xbf", "\ufffd\xef\xbf",
		long + "\xff", "\xff" + long, strings.Repeat("\xff", 100000),
	} {
		wantError(t, d, s, api.ErrUTF)
	}
	for _, s := range []string{
		long, long + "a", "\ufffd" + long, strings.Repeat("a", 100000),
		strings.Repeat("\u00e4", api.MaxToken+1), strings.Repeat("\ufffd", api.MaxToken+1), strings.Repeat("\U0010ffff", api.MaxToken+1),
	} {
		wantError(t, d, s, api.ErrLong)
	}
	// Runes are counted, not bytes.
	for _, r := range []string{"\u00e4", "\ufffd", "\U0010ffff"} {
		s := strings.Repeat(r, api.MaxToken)
		wantState(t, d, s, 0, api.ErrNone)
		wantCount(t, d, s, 0, api.OK)
		wantComplete(t, d, s, 1, nil, api.OK)
	}
	s := strings.Repeat("\u00e4", api.MaxToken)
	wantLongest(t, d, s, "\u00e4", api.OK)
	wantSplit(t, d, s, strings.Split(s, ""), api.OK)
	wantLongest(t, d, "\ufffdbx", "\ufffdb", api.OK)
	wantCount(t, d, "\ufffd", 2, api.OK)
}

// oddRunes are those at the edges, in order.
var oddRunes = []rune{0, 1, 'a', 0x7F, 0x80, 0xE4, 0x7FF, 0x800, 0xD7FF, 0xE000, 0xFFFD, 0xFFFF, 0x10000, utf8.MaxRune}

// P11.1, P11.2: runes lead on, not bytes; whichever rune may be.
func TestRunes(t *testing.T) {
	var some []string
	for _, r := range oddRunes {
		some = append(some, string(r), string(r)+"b", "b"+string(r))
	}
	l := words(some...)
	d := automaton(t, l)
	wantWalk(t, d, l, "")
	for _, r := range oddRunes {
		for _, q := range oddRunes {
			for _, s := range []string{string(r), string(r) + string(q), string(r) + "b" + string(q), "b" + string(r) + string(q) + "b"} {
				wantWalk(t, d, l, s)
				wantLeastSplit(t, d, l, s)
			}
		}
	}
}

// texts is all of up to long runes of these.
func texts(letters string, long int) []string {
	some := []string{""}
	for from := 0; long > 0; long-- {
		to := len(some)
		for _, s := range some[from:to] {
			for _, r := range letters {
				some = append(some, s+string(r))
			}
		}
		from = to
	}
	return some
}

// P11.1, P11.2: all sets of words of up to two runes of two kinds, at all texts of up to six.
func TestSmall(t *testing.T) {
	some := texts("ab", 2)[1:]
	given := texts("ab", 6)
	for set := range 1 << len(some) {
		var chosen []string
		for i, s := range some {
			if set&(1<<i) != 0 {
				chosen = append(chosen, s)
			}
		}
		l := words(chosen...)
		d := automaton(t, l)
		for _, s := range given {
			wantWalk(t, d, l, s)
			wantLeastSplit(t, d, l, s)
		}
	}
}

// randomText is of up to long runes, of few kinds, so that texts begin and end alike.
func randomText(r *rand.Rand, long int) string {
	letters := []rune{'a', 'b', 'm', 0xE4, 0x1F600}
	kinds := 1 + r.Intn(len(letters))
	l := make([]rune, r.Intn(long+1))
	for i := range l {
		l[i] = letters[r.Intn(kinds)]
	}
	return string(l)
}

// P11.1 to P11.3: random words, texts made of them, and others.
func TestRandom(t *testing.T) {
	r := rand.New(rand.NewSource(11))
	for range 300 {
		long := 1 + r.Intn(6)
		var some []string
		for range r.Intn(60) {
			if s := randomText(r, long); s != "" {
				some = append(some, s)
			}
		}
		l := words(some...)
		d := automaton(t, l)
		for range 30 {
			s := randomText(r, long+1)
			wantWalk(t, d, l, s)
			for len(some) > 0 && utf8.RuneCountInString(s) < 8 {
				s += some[r.Intn(len(some))]
			}
			wantWalk(t, d, l, s)
			wantLeastSplit(t, d, l, s)
		}
		wantAlike(t, d, l)
	}
}

// wantAlike says that of words that begin alike nothing else stands between, and that each word is split into itself.
func wantAlike(t *testing.T, d *dawg.Dawg, l []api.Word) {
	t.Helper()
	for _, w := range l {
		wantSplit(t, d, w.S, []string{w.S}, api.OK)
		wantLongest(t, d, w.S, w.S, api.OK)
		for n := range w.S + "." {
			s := w.S[:n]
			some, err := walk.Complete(d, s, api.MaxTop)
			if err != api.OK || len(some) == 0 {
				t.Fatalf("Complete(%q) = %v, %v", s, some, err)
			}
			first, _ := d.Place(some[0].S)
			for i, x := range some {
				if place, err := d.Place(x.S); place != first+i || err != api.OK || !strings.HasPrefix(x.S, s) {
					t.Fatalf("Complete(%q): %q has the place %v; want %v", s, x.S, place, first+i)
				}
			}
			wantCount(t, d, s, len(beginning(l, s)), api.OK)
		}
	}
}

// P11.3: also where a word is made of others, and where others are as long.
func TestAlike(t *testing.T) {
	for _, s := range []string{"a aa aaa aaaa", "a ab abc b bc c", "be ab beab abbe", "\u00e4 \u00e4\u00e4 \u00e4b b b\u00e4"} {
		l := words(strings.Fields(s)...)
		wantAlike(t, automaton(t, l), l)
	}
}

// P11.1, P11.2: as many words as there may be, more than are told at once.
func TestMost(t *testing.T) {
	l := make([]api.Word, api.MaxWords)
	for i := range l {
		l[i] = of(string([]rune{rune('A' + i/4096), rune(0x4000 + i%4096)}), 1+i)
	}
	d := automaton(t, l)
	wantCount(t, d, "", api.MaxWords, api.OK)
	wantComplete(t, d, "", api.MaxTop, l[:api.MaxTop], api.OK)
	for i := range 16 {
		s := string(rune('A' + i))
		own := l[i*4096 : (i+1)*4096]
		wantCount(t, d, s, 4096, api.OK)
		wantComplete(t, d, s, api.MaxTop, own[:api.MaxTop], api.OK)
		wantComplete(t, d, s, api.MaxTop-1, own[:api.MaxTop-1], api.OK)
		wantComplete(t, d, s, 1, own[:1], api.OK)
		wantComplete(t, d, own[4095].S, api.MaxTop, own[4095:], api.OK)
		wantCount(t, d, own[4095].S, 1, api.OK)
		wantLongest(t, d, own[7].S+"x", own[7].S, api.OK)
		wantSplit(t, d, own[7].S+l[9].S, []string{own[7].S, l[9].S}, api.OK)
	}
	for _, s := range []string{"@", "Q", "A\u3fff", "A\u5000", "\x00", "\U0010ffff"} {
		wantCount(t, d, s, 0, api.OK)
		wantComplete(t, d, s, api.MaxTop, nil, api.OK)
	}
}

// Rule 4: an answer is new memory, its spare room too.
func TestAnswersAreNew(t *testing.T) {
	l := words("a", "ab", "abc", "b", "ba")
	d := automaton(t, l)
	c, _ := walk.Complete(d, "a", 5)
	other, _ := walk.Complete(d, "a", 5)
	clear(c[:cap(c)])
	if !slices.Equal(other, l[:3]) {
		t.Error(other)
	}
	wantComplete(t, d, "a", 5, l[:3], api.OK)
	s, _ := walk.Split(d, "abba")
	twin, _ := walk.Split(d, "abba")
	clear(s[:cap(s)])
	if !slices.Equal(twin, []string{"ab", "ba"}) {
		t.Error(twin)
	}
	wantSplit(t, d, "abba", []string{"ab", "ba"}, api.OK)
}

// Rule 4: the automaton that is handed in stays as it is; of others the answers don't hang on it.
func TestDawgIsKept(t *testing.T) {
	l, m := words("a", "ab", "b", "\u00e4"), words("aa", "abb", "x")
	d, e := automaton(t, l), automaton(t, m)
	states, edges := d.States(), d.Edges()
	for range 2 {
		for _, s := range texts("abx\u00e4", 3) {
			wantWalk(t, d, l, s)
			wantLeastSplit(t, d, l, s)
			wantWalk(t, e, m, s)
			wantLeastSplit(t, e, m, s)
		}
		wantError(t, d, "\xff", api.ErrUTF)
		if d.States() != states || d.Edges() != edges || d.Len() != len(l) {
			t.Error(d.States(), d.Edges(), d.Len())
		}
		for i, s := range d.All() {
			if s != l[i].S {
				t.Error(i, s)
			}
		}
	}
}

// P1, P11.1 to P11.3: whatever words and bytes are given, a call answers, and by the chapter's words.
func FuzzWalk(f *testing.F) {
	f.Add("a", "ab", "abc", "b", "abbc", 2)
	f.Add("a", "bcd", "abc", "d", "abcd", -1)
	f.Add("\u00e4", "\ufffd", "\x00", "\U0010ffff", "\u00e4\ufffd\x00", 1000)
	f.Add("a", "aa", "aaa", "aaaa", strings.Repeat("a", 65), 1001)
	f.Add("a", "", "\xff", "b", "a\xff", 0)
	f.Fuzz(func(t *testing.T, a, b, c, e, s string, k int) {
		var l []api.Word
		for _, w := range words(a, b, c, e) {
			if lexicon.Check(w) == api.OK {
				l = append(l, w)
			}
		}
		d := automaton(t, l)
		switch long := utf8.RuneCountInString(s); {
		case !utf8.ValidString(s):
			wantError(t, d, s, api.ErrUTF)
		case long > api.MaxToken:
			wantError(t, d, s, api.ErrLong)
		default:
			wantWalk(t, d, l, s)
			if k >= 0 && k <= api.MaxTop {
				some := beginning(l, s)
				wantComplete(t, d, s, k, some[:min(k, len(some))], api.OK)
			} else {
				wantComplete(t, d, s, k, nil, api.ErrArg)
			}
			if long <= 16 {
				wantLeastSplit(t, d, l, s)
			}
		}
		wantAlike(t, d, l)
	})
}
