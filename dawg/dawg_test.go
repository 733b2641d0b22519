package dawg_test

import (
	"fmt"
	"math"
	"math/rand"
	"slices"
	"strings"
	"testing"
	"unicode/utf8"

	"errata/api"
	"errata/dawg"
	"errata/lexicon"
)

func of(s string, freq int) api.Word { return api.Word{S: s, Freq: freq} }

// words is these in order, each once, with Freqs that tell them apart.
func words(some ...string) []api.Word {
	some = slices.Compact(slices.Sorted(slices.Values(some)))
	var l []api.Word
	for i, s := range some {
		l = append(l, of(s, 1+(i*7919)%api.MaxCount))
	}
	return l
}

// automaton is that of l, which must be normal.
func automaton(t *testing.T, l []api.Word) *dawg.Dawg {
	t.Helper()
	d, err := dawg.New(l)
	if d == nil || err != api.OK {
		t.Fatalf("New(%.200v) = %v; want one", fmt.Sprint(l), err)
	}
	return d
}

// chart is an automaton by the chapter's words: what each state has, by its number.
type chart struct {
	ends  []bool
	out   [][]dawg.Edge
	known map[string]int // by the rests
}

// chartOf is that of l.
func chartOf(l []api.Word) *chart {
	c := &chart{known: map[string]int{}}
	rests := make([]string, len(l))
	for i, w := range l {
		rests[i] = w.S
	}
	c.visit(rests)
	return c
}

// visit is the state of these rests: a new one, and all that is met from it, if it is met for the first time.
func (c *chart) visit(rests []string) int {
	key := fmt.Sprintf("%q", rests)
	if n, found := c.known[key]; found {
		return n
	}
	n := len(c.out)
	c.known[key] = n
	c.ends = append(c.ends, slices.Contains(rests, ""))
	c.out = append(c.out, nil)
	behind := map[rune][]string{}
	var letters []rune
	for _, s := range rests {
		if s == "" {
			continue
		}
		r, size := utf8.DecodeRuneInString(s)
		if behind[r] == nil {
			letters = append(letters, r)
		}
		behind[r] = append(behind[r], s[size:])
	}
	slices.Sort(letters)
	for _, r := range letters {
		e := dawg.Edge{R: r, To: c.visit(behind[r])}
		c.out[n] = append(c.out[n], e)
	}
	return n
}

func (c *chart) edges() int {
	n := 0
	for _, l := range c.out {
		n += len(l)
	}
	return n
}

func wantSize(t *testing.T, d *dawg.Dawg, states, edges, long int) {
	t.Helper()
	if d.States() != states || d.Edges() != edges || d.Len() != long {
		t.Errorf("%v states, %v edges, %v words; want %v, %v, %v", d.States(), d.Edges(), d.Len(), states, edges, long)
	}
}

func wantNext(t *testing.T, d *dawg.Dawg, at int, r int32, want int, wantErr api.Errno) {
	t.Helper()
	if to, err := d.Next(at, r); to != want || err != wantErr {
		t.Errorf("Next(%v, %#x) = %v, %v; want %v, %v", at, r, to, err, want, wantErr)
	}
}

// wantState says what is to be known of a state.
func wantState(t *testing.T, d *dawg.Dawg, at int, ends bool, out []dawg.Edge) {
	t.Helper()
	if got, err := d.Ends(at); got != ends || err != api.OK {
		t.Errorf("Ends(%v) = %v, %v; want %v", at, got, err, ends)
	}
	if got, err := d.Out(at); !slices.Equal(got, out) || err != api.OK {
		t.Errorf("Out(%v) = %v, %v; want %v", at, got, err, out)
	}
	led := map[int32]bool{}
	others := []int32{math.MinInt32, -1, 'z', 0xD800, 0xDFFF, 0x110000, math.MaxInt32}
	for _, e := range out {
		wantNext(t, d, at, e.R, e.To, api.OK)
		led[e.R] = true
		others = append(others, e.R-1, e.R+1)
	}
	for _, r := range others {
		if !led[r] {
			wantNext(t, d, at, r, 0, api.ErrNone)
		}
	}
}

// wantNoState says that at is no state, and what is told of that.
func wantNoState(t *testing.T, d *dawg.Dawg, at int, want api.Errno) {
	t.Helper()
	for _, r := range []int32{math.MinInt32, -1, 0, 'a', utf8.MaxRune, math.MaxInt32} {
		wantNext(t, d, at, r, 0, want)
	}
	if got, err := d.Out(at); len(got) != 0 || err != want {
		t.Errorf("Out(%v) = %v, %v; want %v", at, got, err, want)
	}
	if got, err := d.Ends(at); got || err != want {
		t.Errorf("Ends(%v) = %v, %v; want %v", at, got, err, want)
	}
}

func wantPlace(t *testing.T, d *dawg.Dawg, s string, want int, wantErr api.Errno) {
	t.Helper()
	if i, err := d.Place(s); i != want || err != wantErr {
		t.Errorf("Place(%.90q) = %v, %v; want %v, %v", s, i, err, want, wantErr)
	}
}

func wantWord(t *testing.T, d *dawg.Dawg, i int, want api.Word, wantErr api.Errno) {
	t.Helper()
	if w, err := d.Word(i); w != want || err != wantErr {
		t.Errorf("Word(%v) = %v, %v; want %v, %v", i, w, err, want, wantErr)
	}
}

// wantWords says that the words of d are those of l, in order.
func wantWords(t *testing.T, d *dawg.Dawg, l []api.Word) {
	t.Helper()
	for i, w := range l {
		wantPlace(t, d, w.S, i, api.OK)
		wantWord(t, d, i, w, api.OK)
	}
	for _, i := range []int{math.MinInt, -1, len(l), len(l) + 1, 1 << 32, math.MaxInt} {
		wantWord(t, d, i, api.Word{}, api.ErrArg)
	}
	wantAll(t, d, l)
}

// wantAll says that All hands on the words of l, with their places.
func wantAll(t *testing.T, d *dawg.Dawg, l []api.Word) {
	t.Helper()
	n := 0
	for i, s := range d.All() {
		if i != n || n >= len(l) || s != l[n].S {
			t.Fatalf("All hands on %v, %q as the one of place %v of %.200v", i, s, n, fmt.Sprint(l))
		}
		n++
	}
	if n != len(l) {
		t.Errorf("All hands on %v words; want %.200v", n, fmt.Sprint(l))
	}
}

// wantDawg says that the automaton of l is that of the chapter's words.
func wantDawg(t *testing.T, l []api.Word) {
	t.Helper()
	d, c := automaton(t, l), chartOf(l)
	wantSize(t, d, len(c.out), c.edges(), len(l))
	if t.Failed() {
		t.Fatalf("of %.300v", fmt.Sprint(l))
	}
	for at, out := range c.out {
		wantState(t, d, at, c.ends[at], out)
	}
	for _, at := range []int{math.MinInt, -1, len(c.out), len(c.out) + 1, 1 << 32, math.MaxInt} {
		wantNoState(t, d, at, api.ErrArg)
	}
	wantWords(t, d, l)
	wantLeast(t, d, l)
	if t.Failed() {
		t.Fatalf("of %.300v", fmt.Sprint(l))
	}
}

// wantLeast says that no two states have the same rests, and that those of the first one are the words.
func wantLeast(t *testing.T, d *dawg.Dawg, l []api.Word) {
	t.Helper()
	seen := map[string]int{}
	for at := range d.States() {
		rests := restsOf(d, at)
		key := fmt.Sprintf("%q", rests)
		if other, found := seen[key]; found {
			t.Errorf("states %v and %v both have the rests %v", other, at, key)
		}
		seen[key] = at
		if at > 0 && len(rests) == 0 {
			t.Errorf("nothing is behind the state %v", at)
		}
	}
	var own []string
	for _, w := range l {
		own = append(own, w.S)
	}
	if got := restsOf(d, 0); !slices.Equal(got, own) {
		t.Errorf("from the first on %q end; want %q", got, own)
	}
}

// restsOf is what leads from a state to one at which words end.
func restsOf(d *dawg.Dawg, at int) []string {
	var rests []string
	if ends, _ := d.Ends(at); ends {
		rests = append(rests, "")
	}
	out, _ := d.Out(at)
	for _, e := range out {
		for _, s := range restsOf(d, e.To) {
			rests = append(rests, string(e.R)+s)
		}
	}
	return rests
}

// P10.1: what the document tells.
func TestExample(t *testing.T) {
	l := words("am", "an", "in", "im")
	d := automaton(t, l)
	wantSize(t, d, 3, 4, 4)
	wantState(t, d, 0, false, []dawg.Edge{{R: 'a', To: 1}, {R: 'i', To: 1}})
	wantState(t, d, 1, false, []dawg.Edge{{R: 'm', To: 2}, {R: 'n', To: 2}})
	wantState(t, d, 2, true, nil)
	wantDawg(t, l)
}

// P10.1 to P10.3: the first state is there without words, too.
func TestNoWords(t *testing.T) {
	made, err := dawg.New([]api.Word{})
	if made == nil || err != api.OK {
		t.Fatal(made, err)
	}
	for _, d := range []*dawg.Dawg{made, automaton(t, nil), new(dawg.Dawg)} {
		wantSize(t, d, 1, 0, 0)
		wantState(t, d, 0, false, nil)
		wantNoState(t, d, 1, api.ErrArg)
		wantNoState(t, d, -1, api.ErrArg)
		wantWords(t, d, nil)
		wantWord(t, d, 0, api.Word{}, api.ErrArg)
		for _, s := range []string{"", "a", "\x00", "\xff", "\u00e4"} {
			wantPlace(t, d, s, 0, api.ErrNone)
		}
	}
	wantDawg(t, nil)
}

// P1: a nil Dawg answers as any other.
func TestNil(t *testing.T) {
	var d *dawg.Dawg
	wantSize(t, d, 0, 0, 0)
	for _, at := range []int{math.MinInt, -1, 0, 1, math.MaxInt} {
		wantNoState(t, d, at, api.ErrNil)
		wantWord(t, d, at, api.Word{}, api.ErrNil)
	}
	for _, s := range []string{"", "a", "\xff", strings.Repeat("a", 1000)} {
		wantPlace(t, d, s, 0, api.ErrNil)
	}
	wantAll(t, d, nil)
}

// many is n words in order, no two alike.
func many(n int) []api.Word {
	l := make([]api.Word, n)
	for i := range l {
		l[i] = of(string([]rune{rune('A' + i/4096), rune(0x4000 + i%4096)}), 1+i%7)
	}
	return l
}

// P10.1: layer 9's error is told, the first of several.
func TestNewErrors(t *testing.T) {
	long := strings.Repeat("a", api.MaxToken+1)
	for _, x := range []struct {
		l   []api.Word
		err api.Errno
	}{
		{[]api.Word{of("\xff", 1)}, api.ErrUTF},
		{[]api.Word{of("a", 1), of("a\xc0\x80", 0)}, api.ErrUTF},
		{[]api.Word{of("b", 1), of("a", 1), of("\xed\xa0\x80", 1)}, api.ErrUTF},
		{[]api.Word{of("", 1)}, api.ErrEmpty},
		{[]api.Word{of("", 1), of("\xff", 1)}, api.ErrEmpty},
		{[]api.Word{of(long, 1)}, api.ErrLong},
		{[]api.Word{of("a", 1), of(long, 0), of("", 1)}, api.ErrLong},
		{[]api.Word{of("a", 0)}, api.ErrArg},
		{[]api.Word{of("a", -1)}, api.ErrArg},
		{[]api.Word{of("b", 1), of("a", api.MaxCount+1)}, api.ErrArg},
		{[]api.Word{of("b", 1), of("a", 1)}, api.ErrForm},
		{[]api.Word{of("a", 1), of("a", 1)}, api.ErrForm},
		{[]api.Word{of("a", 1), of("ab", 1), of("a", 2)}, api.ErrForm},
		{[]api.Word{of("\U00010000", 1), of("\uffff", 1)}, api.ErrForm},
		{many(api.MaxWords + 1), api.ErrMany},
		{append(many(api.MaxWords+1), of("a", 1), of("a", 1)), api.ErrForm},
		{append(many(api.MaxWords+1), of("", 1)), api.ErrEmpty},
	} {
		if d, err := dawg.New(x.l); d != nil || err != x.err {
			t.Errorf("New(%.200v) = %v; want %v", fmt.Sprint(x.l), err, x.err)
		}
		if err := lexicon.Is(x.l); err != x.err {
			t.Errorf("Is(%.200v) = %v; want %v", fmt.Sprint(x.l), err, x.err)
		}
	}
}

// P10.1: states are numbered as they are met, as far as one goes ahead of the next edge.
func TestNumbers(t *testing.T) {
	d := automaton(t, words("acx", "acy", "ad", "b", "cx", "cy", "d"))
	wantSize(t, d, 4, 8, 7)
	wantState(t, d, 0, false, []dawg.Edge{{R: 'a', To: 1}, {R: 'b', To: 3}, {R: 'c', To: 2}, {R: 'd', To: 3}})
	wantState(t, d, 1, false, []dawg.Edge{{R: 'c', To: 2}, {R: 'd', To: 3}})
	wantState(t, d, 2, false, []dawg.Edge{{R: 'x', To: 3}, {R: 'y', To: 3}})
	wantState(t, d, 3, true, nil)
	// The last one is met by way of b at first: it stands ahead of what is met behind.
	d = automaton(t, words("b", "cab", "dab", "dac"))
	wantState(t, d, 0, false, []dawg.Edge{{R: 'b', To: 1}, {R: 'c', To: 2}, {R: 'd', To: 4}})
	wantState(t, d, 1, true, nil)
	wantState(t, d, 2, false, []dawg.Edge{{R: 'a', To: 3}})
	wantState(t, d, 3, false, []dawg.Edge{{R: 'b', To: 1}})
	wantState(t, d, 4, false, []dawg.Edge{{R: 'a', To: 5}})
	wantState(t, d, 5, false, []dawg.Edge{{R: 'b', To: 1}, {R: 'c', To: 1}})
	wantSize(t, d, 6, 8, 4)
}

// P10.1, P10.2: states with the same edges are two, if words end at one of them alone.
func TestEnds(t *testing.T) {
	d := automaton(t, words("a", "ab", "cb"))
	wantSize(t, d, 4, 4, 3)
	wantState(t, d, 0, false, []dawg.Edge{{R: 'a', To: 1}, {R: 'c', To: 3}})
	wantState(t, d, 1, true, []dawg.Edge{{R: 'b', To: 2}})
	wantState(t, d, 2, true, nil)
	wantState(t, d, 3, false, []dawg.Edge{{R: 'b', To: 2}})
	d = automaton(t, words("a", "aa", "aaa"))
	wantSize(t, d, 4, 3, 3)
	for at := range 4 {
		if ends, err := d.Ends(at); ends != (at > 0) || err != api.OK {
			t.Error(at, ends, err)
		}
	}
}

// oddRunes are those at the edges, in order: 0xFFFD is a rune like others.
var oddRunes = []rune{0, 1, 'a', 0x7F, 0x80, 0xE4, 0x7FF, 0x800, 0xD7FF, 0xE000, 0xFFFD, 0xFFFF, 0x10000, utf8.MaxRune}

// P10.1 to P10.4: runes, not bytes, lead on; whichever rune may be.
func TestRunes(t *testing.T) {
	var some []string
	for _, r := range oddRunes {
		some = append(some, string(r))
		wantDawg(t, words(string(r)))
		wantDawg(t, words(strings.Repeat(string(r), api.MaxToken)))
	}
	wantDawg(t, words(some...))
	wantSize(t, automaton(t, words(some...)), 2, len(oddRunes), len(oddRunes))
	for _, r := range oddRunes {
		some = append(some, string(r)+"a", string(r)+string(r)+"a", "a"+string(r))
	}
	wantDawg(t, words(some...))
	wantSize(t, automaton(t, words("\u00e4", "\u00e5")), 2, 2, 2)
	wantSize(t, automaton(t, words("\u00e4b", "\u00c4b")), 3, 3, 2)
}

// P10.3: what is no word has no place, bytes that are no text among them.
func TestPlaceOfNoWord(t *testing.T) {
	long := strings.Repeat("a", api.MaxToken)
	d := automaton(t, words("a\x00b", "am", "amb", "b", "m\ufffd", "\u00e4", "\ufffd", "\ufffdx", long))
	for _, s := range []string{
		"", "a", "A", "ama", "ambb", "an", "ba", "m", "mb", "x", "\x00", "a\x00", "am\x00", "m\ufffd\ufffd", "\ufffd\ufffd",
		"\xff", "\x80", "m\xff", "\xffx", "\xc3", "\xa4", "\u00e4\xff", "am\xff", "\xefam", "\xef\xbf", "\xed\xa0\x80", "\xc0\x80", "\xf4\x90\x80\x80",
		long[1:], long + "a", long + "\xff", strings.Repeat("a", 100000), strings.Repeat("\xff", 100000),
	} {
		wantPlace(t, d, s, 0, api.ErrNone)
	}
	wantPlace(t, d, long, 1, api.OK)
	wantPlace(t, d, "\ufffd", 7, api.OK)
	wantPlace(t, d, "\ufffdx", 8, api.OK)
}

// P10.1 to P10.4: all automata of the words of up to three runes of two kinds, and of up to two of three.
func TestSmall(t *testing.T) {
	for _, some := range [][]string{
		{"a", "aa", "aaa", "aab", "ab", "aba", "abb", "b", "ba", "baa", "bab", "bb", "bba", "bbb"},
		{"a", "aa", "ab", "ac", "b", "ba", "bb", "bc", "c", "ca", "cb", "cc"},
	} {
		for set := range 1 << len(some) {
			var chosen []string
			for i, s := range some {
				if set&(1<<i) != 0 {
					chosen = append(chosen, s)
				}
			}
			wantDawg(t, words(chosen...))
		}
	}
}

// randomText is from one to long runes, of few kinds, so that texts begin and end alike.
func randomText(r *rand.Rand, long int) string {
	letters := []rune{'a', 'b', 'm', 0xE4, 0x1F600}
	kinds := 1 + r.Intn(len(letters))
	l := make([]rune, 1+r.Intn(long))
	for i := range l {
		l[i] = letters[r.Intn(kinds)]
	}
	return string(l)
}

// P10.1 to P10.4: random words, and texts that are none of them.
func TestRandom(t *testing.T) {
	r := rand.New(rand.NewSource(10))
	for range 500 {
		long := 1 + r.Intn(8)
		var some []string
		for range r.Intn(200) {
			some = append(some, randomText(r, long))
		}
		l := words(some...)
		wantDawg(t, l)
		d := automaton(t, l)
		for range 50 {
			s := randomText(r, long+1)
			if i := slices.IndexFunc(l, func(w api.Word) bool { return w.S == s }); i >= 0 {
				wantPlace(t, d, s, i, api.OK)
			} else {
				wantPlace(t, d, s, 0, api.ErrNone)
			}
		}
	}
}

// P10.1 to P10.4: endings that many words have, behind beginnings that many have.
func TestEndings(t *testing.T) {
	var some []string
	for _, front := range []string{"", "ab", "an", "aus", "be", "ver", "zer"} {
		for _, stem := range []string{"fall", "lauf", "sag", "stell", "\u00e4nder"} {
			for _, end := range []string{"e", "en", "end", "ende", "enden", "st", "t", "te", "ten"} {
				some = append(some, front+stem+end)
			}
		}
	}
	wantDawg(t, words(some...))
	// Long words whose endings are alike from wherever on.
	some = nil
	for n := range api.MaxToken {
		some = append(some, strings.Repeat("a", n)+strings.Repeat("b", api.MaxToken-n), strings.Repeat("a", n+1))
	}
	wantDawg(t, words(some...))
}

// P10.1 to P10.3: as many words as there may be.
func TestMost(t *testing.T) {
	l := many(api.MaxWords)
	d := automaton(t, l)
	wantSize(t, d, 3, 16+4096, api.MaxWords)
	wantWords(t, d, l)
	wantPlace(t, d, "A", 0, api.ErrNone)
	// All words of sixteen runes of two kinds.
	for i := range l {
		l[i] = of(strings.NewReplacer("0", "a", "1", "b").Replace(fmt.Sprintf("%016b", i)), 1+i)
	}
	d = automaton(t, l)
	wantSize(t, d, 17, 32, api.MaxWords)
	wantWords(t, d, l)
	// Each word by an edge of its own.
	for i := range l {
		l[i] = of(string(rune(0x10000+i)), api.MaxCount-i)
	}
	d = automaton(t, l)
	wantSize(t, d, 2, api.MaxWords, api.MaxWords)
	wantWords(t, d, l)
}

// P10.1 to P10.3: many words, each as long as it may be, of which hardly two are alike anywhere.
func TestLongest(t *testing.T) {
	n := api.MaxWords / 8
	r := rand.New(rand.NewSource(64))
	l := make([]api.Word, n)
	for i := range l {
		s := []rune{rune(0x10000 + i)}
		for len(s) < api.MaxToken {
			s = append(s, rune(0x4000+r.Intn(0x5000)))
		}
		l[i] = of(string(s), 1+i)
	}
	d := automaton(t, l)
	if d.Edges() < 60*n || d.States() < 59*n || d.Edges() > 64*n || d.States() > 63*n+2 {
		t.Error(d.States(), d.Edges())
	}
	wantWords(t, d, l)
}

// P10.3: All may be gone through again, left, and gone through within itself.
func TestAll(t *testing.T) {
	l := words("a", "ab", "abc", "b", "ba", "c", "\u00e4")
	d := automaton(t, l)
	all := d.All()
	for leave := range len(l) + 1 {
		n := 0
		for i, s := range all {
			if n == leave {
				break
			}
			if i != n || s != l[n].S {
				t.Error(leave, i, s)
			}
			n++
		}
		if n != leave {
			t.Error(leave, n)
		}
	}
	for range 2 {
		n := 0
		for i, s := range all {
			if i != n || s != l[n].S {
				t.Error(i, s)
			}
			n++
			m := 0
			for j, u := range all {
				if j != m || u != l[m].S {
					t.Error(j, u)
				}
				m++
			}
			wantAll(t, d, l)
		}
		if n != len(l) {
			t.Error(n)
		}
	}
	func() {
		defer func() {
			if recover() != "left" {
				t.Error("what a loop panics with isn't handed on")
			}
		}()
		for range all {
			panic("left")
		}
	}()
	wantDawg(t, l)
	wantAll(t, d, l)
}

// Rule 4: what is handed in is not changed, its spare room included, and not kept.
func TestArgumentsAreKept(t *testing.T) {
	whole := append(words("am", "an", "b", "\u00e4"), of("zz", 5), of("a", 9))
	kept := slices.Clone(whole)
	d := automaton(t, whole[:4])
	if !slices.Equal(whole, kept) {
		t.Error(whole)
	}
	clear(whole)
	wantWords(t, d, kept[:4])
	wantPlace(t, d, "zz", 0, api.ErrNone)
}

// Rule 4: an answer is new memory, its spare room too.
func TestAnswersAreNew(t *testing.T) {
	l := words("am", "an", "im", "in", "m")
	d := automaton(t, l)
	for at := range d.States() {
		first, _ := d.Out(at)
		second, _ := d.Out(at)
		kept := slices.Clone(second)
		clear(first[:cap(first)])
		third, _ := d.Out(at)
		if !slices.Equal(second, kept) || !slices.Equal(third, kept) {
			t.Error(at, second, third)
		}
	}
	wantDawg(t, l)
	c := chartOf(l)
	for at, out := range c.out {
		wantState(t, d, at, c.ends[at], out)
	}
	wantWords(t, d, l)
}

// Rule 5: Dawgs are independent of one another; of the same words they are the same, whatever the Freqs.
func TestIndependent(t *testing.T) {
	l := words("am", "an", "in", "im", "\u00e4m")
	d := automaton(t, l)
	wantDawg(t, words("b", "c", "cb"))
	rare := slices.Clone(l)
	for i := range rare {
		rare[i].Freq = api.MaxCount - i
	}
	other := automaton(t, rare)
	wantWords(t, d, l)
	wantWords(t, other, rare)
	wantSize(t, other, d.States(), d.Edges(), d.Len())
	for at := range d.States() {
		out, _ := d.Out(at)
		ends, _ := d.Ends(at)
		wantState(t, other, at, ends, out)
	}
}

// P1, P10.1 to P10.4: whatever words are, a call answers, and by the chapter's words.
func FuzzDawg(f *testing.F) {
	f.Add("am", "an", "im", "in", "a", 0, int32('a'))
	f.Add("", "a", "\xff", "\xc3", "", 1, int32(-1))
	f.Add("a", "ab", "abc", "b", "ab", -1, int32(0))
	f.Add(strings.Repeat("a", 65), "\xed\xa0\x80", "\ufffd", "\x00", "\xff", 1<<40, int32(0xFFFD))
	f.Fuzz(func(t *testing.T, a, b, c, e, s string, at int, r int32) {
		given := words(a, b, c, e)
		var l []api.Word
		for _, w := range given {
			if lexicon.Check(w) == api.OK {
				l = append(l, w)
			}
		}
		if d, err := dawg.New(given); err != lexicon.Is(given) || (d == nil) != (err != api.OK) {
			t.Fatalf("New(%v) = %v", given, err)
		}
		wantDawg(t, l)
		d := automaton(t, l)
		if i := slices.IndexFunc(l, func(w api.Word) bool { return w.S == s }); i >= 0 {
			wantPlace(t, d, s, i, api.OK)
		} else {
			wantPlace(t, d, s, 0, api.ErrNone)
		}
		if at < 0 || at >= d.States() {
			wantNoState(t, d, at, api.ErrArg)
			return
		}
		out, _ := d.Out(at)
		if i := slices.IndexFunc(out, func(e dawg.Edge) bool { return e.R == r }); i >= 0 {
			wantNext(t, d, at, r, out[i].To, api.OK)
		} else {
			wantNext(t, d, at, r, 0, api.ErrNone)
		}
	})
}
