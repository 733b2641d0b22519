package lexicon_test

import (
	"fmt"
	"maps"
	"math"
	"math/rand"
	"slices"
	"strings"
	"testing"
	"unicode/utf8"

	"errata/api"
	"errata/lexicon"
)

func of(s string, freq int) api.Word { return api.Word{S: s, Freq: freq} }

// noTexts are bytes that are no text.
var noTexts = []string{"\x80", "\xff", "a\xff", "\xffa", "a\xc3", "\xc0\x80", "\xed\xa0\x80", "\xf4\x90\x80\x80", "ab\xe2\x82"}

// noFreqs are numbers that no word's Freq may be.
var noFreqs = []int{math.MinInt, -api.MaxCount, -1, 0, api.MaxCount + 1, 1 << 31, 1<<32 + 1, math.MaxInt}

// wrong are words that may not be, with why.
var wrong = []struct {
	w   api.Word
	err api.Errno
}{
	{of("\xff", 1), api.ErrUTF},
	{of("a\xc0\x80", 0), api.ErrUTF},
	{of(strings.Repeat("a", api.MaxToken+1)+"\xff", 1), api.ErrUTF},
	{of("", 1), api.ErrEmpty},
	{of("", 0), api.ErrEmpty},
	{of(strings.Repeat("a", api.MaxToken+1), 1), api.ErrLong},
	{of(strings.Repeat("\u00e4", api.MaxToken+1), -1), api.ErrLong},
	{of("b", 0), api.ErrArg},
	{of("b", -1), api.ErrArg},
	{of("b", api.MaxCount+1), api.ErrArg},
}

// inOrder are words, each one standing ahead of the next one.
var inOrder = []api.Word{
	of("\x00", 9), of("\x00\x00", 8), of(" ", 7), of("-", 1), of("Z", 2), of("a", 1), of("a\x00", api.MaxCount), of("a b", 3),
	of("aa", 1), of("ab", 4), of("am", 5), of("b", 6), of("ba", 6), of("\u0080", 2), of("\u00e4", 3), of("\u00e4a", 3),
	of("\u07ff", 1), of("\u0800", 1), of("\uffff", 1), of("\U00010000", 2), of("\U0010ffff", 1), of("\U0010ffffa", 1),
}

// distinct is n words in order, no two alike.
func distinct(n int) []api.Word {
	l := make([]api.Word, n)
	for i := range l {
		l[i] = of(string([]rune{rune('A' + i/4096), rune(0x4000 + i%4096)}), 1+i%7)
	}
	return l
}

func reversed(l []api.Word) []api.Word {
	l = slices.Clone(l)
	slices.Reverse(l)
	return l
}

func wantCheck(t *testing.T, w api.Word, want api.Errno) {
	t.Helper()
	if err := lexicon.Check(w); err != want {
		t.Errorf("Check(%.90q, %v) = %v; want %v", w.S, w.Freq, err, want)
	}
	if err := lexicon.Is([]api.Word{w}); err != want {
		t.Errorf("Is(%.90q, %v) = %v; want %v", w.S, w.Freq, err, want)
	}
}

func wantFind(t *testing.T, l []api.Word, s string, want int, wantErr api.Errno) {
	t.Helper()
	if n, err := lexicon.Find(l, s); n != want || err != wantErr {
		t.Errorf("Find(%.200v, %.90q) = %v, %v; want %v, %v", fmt.Sprint(l), s, n, err, want, wantErr)
	}
}

func wantBegins(t *testing.T, l []api.Word, s string, from, to int, want api.Errno) {
	t.Helper()
	if a, b, err := lexicon.Begins(l, s); a != from || b != to || err != want {
		t.Errorf("Begins(%.200v, %.90q) = %v, %v, %v; want %v, %v, %v", fmt.Sprint(l), s, a, b, err, from, to, want)
	}
}

func wantBest(t *testing.T, l []api.Word, k int, want []api.Word, wantErr api.Errno) {
	t.Helper()
	if got, err := lexicon.Best(l, k); !slices.Equal(got, want) || err != wantErr {
		t.Errorf("Best(%.200v, %v) = %.200v, %v; want %.200v, %v", fmt.Sprint(l), k, fmt.Sprint(got), err, fmt.Sprint(want), wantErr)
	}
}

// wantIs says that l is normal.
func wantIs(t *testing.T, l []api.Word) {
	t.Helper()
	if err := lexicon.Is(l); err != api.OK {
		t.Errorf("Is(%.200v) = %v", fmt.Sprint(l), err)
	}
	step := 1 + len(l)/20
	for i, w := range l {
		// Each Find checks all words: of many some are enough.
		if i%step == 0 {
			wantFind(t, l, w.S, w.Freq, api.OK)
		}
	}
}

// wantIsNot says that l isn't normal, and why, whatever else is asked.
func wantIsNot(t *testing.T, l []api.Word, want api.Errno) {
	t.Helper()
	if err := lexicon.Is(l); err != want {
		t.Errorf("Is(%.200v) = %v; want %v", fmt.Sprint(l), err, want)
	}
	for _, s := range []string{"", "a", "\xff"} {
		wantFind(t, l, s, 0, want)
		wantBegins(t, l, s, 0, 0, want)
	}
	for _, k := range []int{-1, 0, 1, api.MaxTop, api.MaxTop + 1} {
		wantBest(t, l, k, nil, want)
	}
}

func wantNormal(t *testing.T, l, want []api.Word) {
	t.Helper()
	if got, err := lexicon.Normal(l); !slices.Equal(got, want) || err != api.OK {
		t.Errorf("Normal(%.200v) = %.200v, %v; want %.200v", fmt.Sprint(l), fmt.Sprint(got), err, fmt.Sprint(want))
	}
	wantIs(t, want)
}

func wantNoNormal(t *testing.T, l []api.Word, want api.Errno) {
	t.Helper()
	if got, err := lexicon.Normal(l); len(got) != 0 || err != want {
		t.Errorf("Normal(%.200v) = %.200v, %v; want %v", fmt.Sprint(l), fmt.Sprint(got), err, want)
	}
}

// P9.1: words that may be, up to the edges.
func TestCheck(t *testing.T) {
	for _, freq := range []int{1, 2, api.MaxCount - 1, api.MaxCount} {
		for _, r := range []string{"a", " ", "1", "\x00", "\u00e4", "\u20ac", "\U0010ffff"} {
			for _, n := range []int{1, 2, api.MaxToken - 1, api.MaxToken} {
				wantCheck(t, of(strings.Repeat(r, n), freq), api.OK)
			}
		}
	}
}

// P9.1: the first of the errors is told.
func TestCheckErrors(t *testing.T) {
	for _, freq := range append(noFreqs, 1, api.MaxCount) {
		wantCheck(t, of("", freq), api.ErrEmpty)
		for _, s := range noTexts {
			wantCheck(t, of(s, freq), api.ErrUTF)
			wantCheck(t, of(strings.Repeat("a", api.MaxToken+1)+s, freq), api.ErrUTF)
		}
		for _, n := range []int{api.MaxToken + 1, api.MaxToken + 2, 100000} {
			wantCheck(t, of(strings.Repeat("a", n), freq), api.ErrLong)
			wantCheck(t, of(strings.Repeat("\u00e4", n), freq), api.ErrLong)
		}
	}
	for _, freq := range noFreqs {
		wantCheck(t, of("a", freq), api.ErrArg)
		wantCheck(t, of(strings.Repeat("\U0010ffff", api.MaxToken), freq), api.ErrArg)
	}
}

// P9.1: normal words, none among them.
func TestIs(t *testing.T) {
	wantIs(t, nil)
	wantIs(t, []api.Word{})
	wantIs(t, []api.Word{of("am", 1)})
	wantIs(t, []api.Word{of("a", 2), of("b", 4)})
	wantIs(t, inOrder)
}

// P9.1: they rise by their bytes, no two alike, whatever their Freqs.
func TestOrder(t *testing.T) {
	for i, a := range inOrder {
		for j, b := range inOrder {
			if i < j {
				wantIs(t, []api.Word{a, b})
				continue
			}
			for _, freq := range []int{1, a.Freq, api.MaxCount} {
				b.Freq = freq
				wantIsNot(t, []api.Word{a, b}, api.ErrForm)
			}
		}
	}
	for i := range len(inOrder) - 1 {
		l := slices.Clone(inOrder)
		l[i], l[i+1] = l[i+1], l[i]
		wantIsNot(t, l, api.ErrForm)
		wantIsNot(t, slices.Insert(slices.Clone(inOrder), i, inOrder[i]), api.ErrForm)
		wantIsNot(t, append(slices.Clone(inOrder), inOrder[i]), api.ErrForm)
	}
}

// P9.1: a word that may not be is told of, wherever it stands, ahead of all else.
func TestWrongWords(t *testing.T) {
	l := []api.Word{of("a", 1), of("ab", 3), of("m", 1)}
	for _, x := range wrong {
		lists := [][]api.Word{{x.w}, {l[1], l[1], x.w}}
		for i := range len(l) + 1 {
			lists = append(lists, slices.Insert(slices.Clone(l), i, x.w), slices.Insert(reversed(l), i, x.w))
		}
		for _, y := range wrong {
			lists = append(lists, []api.Word{x.w, y.w}, []api.Word{l[2], x.w, l[1], y.w})
		}
		for _, some := range lists {
			wantIsNot(t, some, x.err)
			wantNoNormal(t, some, x.err)
		}
	}
	many := distinct(api.MaxWords + 1)
	for _, x := range wrong {
		some := append(slices.Clone(many), x.w)
		if err := lexicon.Is(some); err != x.err {
			t.Errorf("Is of many and %.90q: %v; want %v", x.w.S, err, x.err)
		}
		wantNoNormal(t, some, x.err)
	}
}

// P9.1: at most MaxWords; that they don't rise is told ahead of that.
func TestIsOfMany(t *testing.T) {
	all := distinct(api.MaxWords + 1)
	wantIs(t, all[:api.MaxWords])
	wantIs(t, all[1:])
	wantIsNot(t, all, api.ErrMany)
	if err := lexicon.Is(reversed(all)); err != api.ErrForm {
		t.Error(err)
	}
	if err := lexicon.Is(append(all, all[api.MaxWords])); err != api.ErrForm {
		t.Error(err)
	}
	if err := lexicon.Is(distinct(2 * api.MaxWords)); err != api.ErrMany {
		t.Error(err)
	}
}

// P9.1: each S once, its Freqs together, rising.
func TestNormal(t *testing.T) {
	wantNormal(t, nil, nil)
	wantNormal(t, []api.Word{}, nil)
	wantNormal(t, []api.Word{of("am", 3)}, []api.Word{of("am", 3)})
	wantNormal(t, []api.Word{of("b", 1), of("a", 2), of("b", 3)}, []api.Word{of("a", 2), of("b", 4)})
	wantNormal(t, []api.Word{of("ab", 1), of("a", 1), of("A", 1), of("a", 1)}, []api.Word{of("A", 1), of("a", 2), of("ab", 1)})
	wantNormal(t, inOrder, inOrder)
	wantNormal(t, reversed(inOrder), inOrder)
	// What compares otherwise as UTF-16 or as upper and lower case.
	wantNormal(t, []api.Word{of("\U00010000", 1), of("\uffff", 1), of("b", 1), of("C", 1)}, []api.Word{of("C", 1), of("b", 1), of("\uffff", 1), of("\U00010000", 1)})
}

// P9.1: Freqs together are at most MaxCount.
func TestNormalOfGreatFreqs(t *testing.T) {
	const most = api.MaxCount
	for _, x := range []struct {
		freqs []int
		want  int
	}{
		{[]int{most}, most}, {[]int{most, 1}, most}, {[]int{1, most}, most}, {[]int{most, most}, most},
		{[]int{most - 1, 1}, most}, {[]int{most - 2, 1}, most - 1}, {[]int{most - 1, 2}, most}, {[]int{2, most - 1}, most},
		{[]int{most / 2, most / 2}, most}, {[]int{most / 2, most/2 - 1}, most - 1},
		{[]int{most, most, most, most, most}, most}, {[]int{most - 3, 1, 1}, most - 1},
		{slices.Repeat([]int{most}, 1000), most}, {slices.Repeat([]int{1}, 1000), 1000},
	} {
		l := []api.Word{of("b", 1)}
		for _, n := range x.freqs {
			l = append(l, of("a", n))
		}
		wantNormal(t, append(l, of("\u00e4", 2)), []api.Word{of("a", x.want), of("b", 1), of("\u00e4", 2)})
	}
}

// P9.1: the words that there would be are counted, not those that they are made of.
func TestNormalOfMany(t *testing.T) {
	all := distinct(api.MaxWords + 1)
	most := all[:api.MaxWords]
	wantNormal(t, most, most)
	wantNormal(t, reversed(most), most)
	twice := slices.Clone(most)
	for i := range twice {
		twice[i].Freq *= 2
	}
	wantNormal(t, append(reversed(most), most...), twice)
	wantNormal(t, slices.Repeat([]api.Word{of("am", 3)}, 100000), []api.Word{of("am", 300000)})
	wantNoNormal(t, all, api.ErrMany)
	wantNoNormal(t, reversed(all), api.ErrMany)
	wantNoNormal(t, append(reversed(all), all...), api.ErrMany)
}

// P9.2: what is there is found, whatever is asked for.
func TestFind(t *testing.T) {
	l := []api.Word{of("a", 2), of("am", 5), of("an", api.MaxCount), of("b", 4), of("\u00e4", 3)}
	for _, w := range l {
		wantFind(t, l, w.S, w.Freq, api.OK)
		wantFind(t, nil, w.S, 0, api.ErrNone)
		wantFind(t, l, w.S+"\x00", 0, api.ErrNone)
		wantFind(t, l, "\x00"+w.S, 0, api.ErrNone)
	}
	for _, s := range []string{"", "\x00", "A", "a ", "al", "ama", "ao", "ba", "z", "\xc3", "\xa4", "\u00e4a", "\xff", "\xc0\x80", strings.Repeat("a", 100000)} {
		wantFind(t, l, s, 0, api.ErrNone)
		wantFind(t, nil, s, 0, api.ErrNone)
		wantFind(t, []api.Word{}, s, 0, api.ErrNone)
	}
}

// P9.2: each of many is found, and nothing between them.
func TestFindAmongMany(t *testing.T) {
	l := distinct(300)
	for _, w := range l {
		wantFind(t, l, w.S, w.Freq, api.OK)
		wantFind(t, l, w.S+"a", 0, api.ErrNone)
		wantFind(t, l, w.S[:len(w.S)-1], 0, api.ErrNone)
	}
}

// P9.2: where those stand that begin with bytes, a rune cut off among them, and where there are none.
func TestBegins(t *testing.T) {
	l := []api.Word{of("a", 1), of("am", 1), of("ama", 1), of("an", 1), of("b", 1), of("\u00e4", 1), of("\u00e4t", 1), of("\u00f6", 1)}
	for _, x := range []struct {
		s        string
		from, to int
	}{
		{"", 0, 8}, {"a", 0, 4}, {"am", 1, 3}, {"ama", 2, 3}, {"an", 3, 4}, {"b", 4, 5},
		{"\xc3", 5, 8}, {"\u00e4", 5, 7}, {"\u00e4t", 6, 7}, {"\u00f6", 7, 8},
		{"\x00", 0, 0}, {"A", 0, 0}, {"aa", 1, 1}, {"amaa", 3, 3}, {"amb", 3, 3}, {"ao", 4, 4}, {"ba", 5, 5}, {"c", 5, 5},
		{"\xa4", 5, 5}, {"\xc2", 5, 5}, {"\xc3\xa5", 7, 7}, {"\u00e4\x00", 6, 6}, {"\u00f6\x00", 8, 8}, {"\xc4", 8, 8}, {"\xff", 8, 8},
		{strings.Repeat("a", 100000), 1, 1},
	} {
		wantBegins(t, l, x.s, x.from, x.to, api.OK)
		wantBegins(t, nil, x.s, 0, 0, api.OK)
		wantBegins(t, []api.Word{}, x.s, 0, 0, api.OK)
	}
	most := distinct(api.MaxWords)
	wantBegins(t, most, "", 0, api.MaxWords, api.OK)
	wantBegins(t, most, "B", 4096, 8192, api.OK)
	wantBegins(t, most, most[api.MaxWords-1].S, api.MaxWords-1, api.MaxWords, api.OK)
}

// P9.2: the more frequent one first, as frequent ones rising.
func TestBest(t *testing.T) {
	l := []api.Word{of("a", 2), of("b", 4), of("ba", api.MaxCount), of("c", 4), of("d", 1), of("\u00e4", 4)}
	want := []api.Word{l[2], l[1], l[3], l[5], l[0], l[4]}
	for k := range 10 {
		wantBest(t, l, k, want[:min(k, len(want))], api.OK)
	}
	wantBest(t, l, api.MaxTop, want, api.OK)
	for _, k := range []int{0, 1, 2, api.MaxTop} {
		wantBest(t, nil, k, nil, api.OK)
		wantBest(t, []api.Word{}, k, nil, api.OK)
	}
	for _, k := range []int{math.MinInt, -1, api.MaxTop + 1, 1 << 31, 1 << 32, math.MaxInt} {
		wantBest(t, l, k, nil, api.ErrArg)
		wantBest(t, nil, k, nil, api.ErrArg)
	}
}

// P9.2: of many the first MaxTop, and as frequent ones as they stand.
func TestBestOfMany(t *testing.T) {
	l := distinct(api.MaxWords)
	var want []api.Word
	for _, w := range l {
		if w.Freq == 7 {
			want = append(want, w)
		}
	}
	for _, k := range []int{0, 1, 10, api.MaxTop - 1, api.MaxTop} {
		wantBest(t, l, k, want[:k], api.OK)
	}
	short := distinct(api.MaxTop - 1)
	if got, err := lexicon.Best(short, api.MaxTop); len(got) != len(short) || err != api.OK {
		t.Error(len(got), err)
	}
}

// isNormal says whether words are normal, by the chapter's words.
func isNormal(l []api.Word) bool {
	for i, w := range l {
		n := utf8.RuneCountInString(w.S)
		if !utf8.ValidString(w.S) || n < 1 || n > 64 || w.Freq < 1 || w.Freq > 1<<30 {
			return false
		}
		if i > 0 && l[i-1].S >= w.S {
			return false
		}
	}
	return len(l) <= 65536
}

// normalOf is words that may be, each once, by a list that each is laid into.
func normalOf(l []api.Word) []api.Word {
	sums := map[string]int64{}
	for _, w := range l {
		sums[w.S] += int64(w.Freq)
	}
	var some []api.Word
	for _, s := range slices.Sorted(maps.Keys(sums)) {
		some = append(some, of(s, int(min(sums[s], 1<<30))))
	}
	return some
}

// bestOf is the k most frequent words: time and again the first one of those that none is more frequent than.
func bestOf(l []api.Word, k int) []api.Word {
	var some []api.Word
	left := slices.Clone(l)
	for range min(k, len(l)) {
		most := 0
		for i, w := range left {
			if w.Freq > left[most].Freq {
				most = i
			}
		}
		some = append(some, left[most])
		left = slices.Delete(left, most, most+1)
	}
	return some
}

// beginsOf is which words begin with s, or where it would stand, gone through one by one.
func beginsOf(l []api.Word, s string) (int, int) {
	ahead, with := 0, 0
	for _, w := range l {
		switch {
		case strings.HasPrefix(w.S, s):
			with++
		case w.S < s:
			ahead++
		}
	}
	return ahead, ahead + with
}

// randomText is up to long runes, of few kinds, so that texts begin alike.
func randomText(r *rand.Rand, long int) string {
	letters := []rune{'a', 'b', 'm', 0xE4, 0xE5, 0x1F600}
	l := make([]rune, r.Intn(long+1))
	for i := range l {
		l[i] = letters[r.Intn(len(letters))]
	}
	return string(l)
}

// randomWords are words in whatever order, some there more than once, with Freqs of every size.
func randomWords(r *rand.Rand) []api.Word {
	var l []api.Word
	for range r.Intn(60) {
		l = append(l, of("a"+randomText(r, 3), 1+r.Intn(1<<r.Intn(31))))
		if r.Intn(2) == 0 {
			l[len(l)-1].S = l[len(l)-1].S[1:] + "b"
		}
	}
	return l
}

// P9.1, P9.3: random words, in whatever order they come.
func TestNormalOfAny(t *testing.T) {
	r := rand.New(rand.NewSource(91))
	for range 2000 {
		l := randomWords(r)
		want := normalOf(l)
		if !isNormal(want) {
			t.Fatalf("%v isn't normal", want)
		}
		for range 3 {
			wantNormal(t, l, want)
			r.Shuffle(len(l), func(i, j int) { l[i], l[j] = l[j], l[i] })
		}
		wantNormal(t, want, want)
	}
}

// P9.3: words that are made normal in parts, or word by word, are the same.
func TestNormalInParts(t *testing.T) {
	r := rand.New(rand.NewSource(93))
	for range 500 {
		l := randomWords(r)
		want := normalOf(l)
		cut := r.Intn(len(l) + 1)
		one, errOne := lexicon.Normal(l[:cut])
		two, errTwo := lexicon.Normal(l[cut:])
		if errOne != api.OK || errTwo != api.OK {
			t.Fatal(errOne, errTwo)
		}
		wantNormal(t, append(slices.Clone(one), two...), want)
		wantNormal(t, append(slices.Clone(two), one...), want)
		var some []api.Word
		for _, w := range l {
			some, _ = lexicon.Normal(append(some, w))
		}
		wantNormal(t, some, want)
	}
}

// P9.2, P9.3: random words, whatever is asked of them.
func TestAsked(t *testing.T) {
	r := rand.New(rand.NewSource(92))
	for range 1000 {
		l, err := lexicon.Normal(randomWords(r))
		if err != api.OK || !isNormal(l) {
			t.Fatal(l, err)
		}
		for range 10 {
			s := randomText(r, 5)
			if len(s) > 0 && r.Intn(3) == 0 {
				s = s[:r.Intn(len(s))]
			}
			from, to := beginsOf(l, s)
			wantBegins(t, l, s, from, to, api.OK)
			if from < to && l[from].S == s {
				wantFind(t, l, s, l[from].Freq, api.OK)
			} else {
				wantFind(t, l, s, 0, api.ErrNone)
			}
		}
		for i := range l {
			l[i].Freq = 1 + r.Intn(5)
		}
		for range 3 {
			k := r.Intn(len(l) + 5)
			wantBest(t, l, k, bestOf(l, k), api.OK)
		}
	}
}

// Rule 4: what is handed in is not changed, its spare room included, and not kept.
func TestArgumentsAreKept(t *testing.T) {
	whole := []api.Word{of("b", 1), of("a", 2), of("b", 3), of("c", 7), of("0", 9)}
	kept := slices.Clone(whole)
	got, err := lexicon.Normal(whole[:4])
	if err != api.OK || !slices.Equal(whole, kept) {
		t.Error(whole, err)
	}
	clear(whole)
	want := []api.Word{of("a", 2), of("b", 4), of("c", 7)}
	if !slices.Equal(got, want) {
		t.Error(got)
	}
	wide := append(slices.Clone(want), of("d", 9), of("b", 3))
	keptWide := slices.Clone(wide)
	best, err := lexicon.Best(wide[:4], 3)
	wantFind(t, wide[:4], "b", 4, api.OK)
	wantBegins(t, wide[:4], "b", 1, 2, api.OK)
	wantIs(t, wide[:4])
	if err != api.OK || !slices.Equal(wide, keptWide) {
		t.Error(wide, err)
	}
	clear(wide)
	if !slices.Equal(best, []api.Word{of("d", 9), of("c", 7), of("b", 4)}) {
		t.Error(best)
	}
}

// Rule 4, rule 5: an answer is new memory, its spare room too, and hangs on the arguments alone.
func TestAnswersAreNew(t *testing.T) {
	l := []api.Word{of("a", 2), of("b", 4), of("c", 7)}
	kept := slices.Clone(l)
	for name, call := range map[string]func() ([]api.Word, api.Errno){
		"Normal": func() ([]api.Word, api.Errno) { return lexicon.Normal(l) },
		"Best":   func() ([]api.Word, api.Errno) { return lexicon.Best(l, 2) },
	} {
		first, _ := call()
		second, _ := call()
		want := slices.Clone(second)
		clear(first[:cap(first)])
		third, _ := call()
		if !slices.Equal(second, want) || !slices.Equal(third, want) || !slices.Equal(l, kept) {
			t.Error(name, second, third, l)
		}
	}
}

// P1, P9.1, P9.2: whatever words are, a call answers, and by the chapter's words.
func FuzzLexicon(f *testing.F) {
	f.Add("b", "a", "b", "b", 1, 2, 3, 2)
	f.Add("", "a", "\xff", "\xc3", 1, 0, 1<<30, -1)
	f.Add("a", "ab", "b\u00e4", "b", 1<<30, 1<<30, 1, 1001)
	f.Add(strings.Repeat("a", 65), "\xed\xa0\x80", "", "", 1, 1, 1<<30+1, 0)
	f.Fuzz(func(t *testing.T, a, b, c, s string, n, m, o, k int) {
		l := []api.Word{of(a, n), of(b, m), of(c, o)}
		first := api.OK
		for _, w := range l {
			if first == api.OK {
				first = lexicon.Check(w)
			}
		}
		got, err := lexicon.Normal(l)
		if err != first || first != api.OK && len(got) != 0 || first == api.OK && !slices.Equal(got, normalOf(l)) {
			t.Fatalf("Normal(%v) = %v, %v", l, got, err)
		}
		if (lexicon.Is(l) == api.OK) != isNormal(l) {
			t.Fatalf("Is(%v) = %v", l, lexicon.Is(l))
		}
		if lexicon.Is(l) != api.OK {
			wantIsNot(t, l, lexicon.Is(l))
		}
		from, to := beginsOf(got, s)
		wantBegins(t, got, s, from, to, api.OK)
		if k < 0 || k > 1000 {
			wantBest(t, got, k, nil, api.ErrArg)
		} else {
			wantBest(t, got, k, bestOf(got, k), api.OK)
		}
	})
}
