package match_test

import (
	"fmt"
	"math"
	"math/rand"
	"slices"
	"strings"
	"testing"
	"unicode/utf8"

	"errata/api"
	"errata/match"
	"errata/rule"
)

func of(from, to string, cost int) api.Rule { return api.Rule{From: from, To: to, Cost: cost} }

// noTexts are bytes that are no text.
var noTexts = []string{"\x80", "\xff", "a\xff", "\xffa", "a\xc3", "\xc0\x80", "\xed\xa0\x80", "\xf4\x90\x80\x80", "ab\xe2\x82", strings.Repeat("a", 100) + "\xff"}

// normal is rules of these Froms, in order, each From with as many Tos as it is told times.
func normal(froms ...string) []api.Rule {
	froms = slices.Sorted(slices.Values(froms))
	var l []api.Rule
	for i, from := range froms {
		// No From has this To: it has runes of its own.
		l = append(l, of(from, string([]rune{0x4E00, rune(0x5000 + i)}), 1+i%api.MaxCost))
	}
	return l
}

// machine is one of l, which must be normal.
func machine(t *testing.T, l []api.Rule) *match.Machine {
	t.Helper()
	m, err := match.New(l)
	if m == nil || err != api.OK {
		t.Fatalf("New(%.200v) = %v, %v", fmt.Sprint(l), m, err)
	}
	return m
}

// hitsOf is all hits of s, by the chapter's words.
func hitsOf(l []api.Rule, s string) []match.Hit {
	var some []match.Hit
	text := []rune(s)
	for at := range len(text) + 1 {
		for i, r := range l {
			if strings.HasPrefix(string(text[at:]), r.From) {
				some = append(some, match.Hit{At: at, Rule: i})
			}
		}
	}
	return some
}

// rulesAt is the rules of those hits that are at a place.
func rulesAt(l []match.Hit, at int) []int {
	var some []int
	for _, h := range l {
		if h.At == at {
			some = append(some, h.Rule)
		}
	}
	return some
}

// statesOf is how many beginnings Froms have, by the chapter's words.
func statesOf(l []api.Rule) int {
	all := map[string]bool{"": true}
	for _, r := range l {
		from := []rune(r.From)
		for i := range len(from) + 1 {
			all[string(from[:i])] = true
		}
	}
	return len(all)
}

func wantHits(t *testing.T, m *match.Machine, s string, want []match.Hit) {
	t.Helper()
	if got, err := m.Hits(s); !slices.Equal(got, want) || err != api.OK {
		t.Errorf("Hits(%q) = %.300v, %v; want %.300v", s, fmt.Sprint(got), err, fmt.Sprint(want))
	}
	for at := range utf8.RuneCountInString(s) + 1 {
		rules := rulesAt(want, at)
		if got, err := m.At(s, at); !slices.Equal(got, rules) || err != api.OK {
			t.Errorf("At(%q, %v) = %.300v, %v; want %.300v", s, at, fmt.Sprint(got), err, fmt.Sprint(rules))
		}
	}
}

func wantNoHits(t *testing.T, m *match.Machine, s string, want api.Errno) {
	t.Helper()
	if got, err := m.Hits(s); len(got) != 0 || err != want {
		t.Errorf("Hits(%.40q) = %v, %v; want %v", s, got, err, want)
	}
	for _, at := range []int{0, 1, -1, 64, 65, 66, math.MinInt, math.MaxInt} {
		wantNotAt(t, m, s, at, want)
	}
}

func wantNotAt(t *testing.T, m *match.Machine, s string, at int, want api.Errno) {
	t.Helper()
	if got, err := m.At(s, at); len(got) != 0 || err != want {
		t.Errorf("At(%.40q, %v) = %v, %v; want %v", s, at, got, err, want)
	}
}

func wantStates(t *testing.T, l []api.Rule, want int) {
	t.Helper()
	if n := machine(t, l).States(); n != want {
		t.Errorf("States of %.200v: %v; want %v", fmt.Sprint(l), n, want)
	}
}

func wantNoMachine(t *testing.T, l []api.Rule, want api.Errno) {
	t.Helper()
	if m, err := match.New(l); m != nil || err != want {
		t.Errorf("New(%.200v) = %v, %v; want %v", fmt.Sprint(l), m, err, want)
	}
}

// P8.2: what the document tells.
func TestExample(t *testing.T) {
	// Rules stand in order: n is the first one, rn the second.
	m := machine(t, []api.Rule{of("n", "r", 1), of("rn", "m", 1)})
	wantHits(t, m, "arn", []match.Hit{{At: 1, Rule: 1}, {At: 2, Rule: 0}})
}

// P8.1: beginnings, each once, by runes and not by bytes, the empty one, too.
func TestStates(t *testing.T) {
	wantStates(t, nil, 1)
	wantStates(t, []api.Rule{}, 1)
	wantStates(t, normal(""), 1)
	wantStates(t, normal("", "", ""), 1)
	wantStates(t, normal("a"), 2)
	wantStates(t, normal("\x00"), 2)
	wantStates(t, normal("abc"), 4)
	wantStates(t, normal("abc", "abc"), 4)
	wantStates(t, normal("a", "ab", "abc"), 4)
	wantStates(t, normal("", "abc", "abd", "b"), 6)
	wantStates(t, normal("abc", "bc", "c"), 7)
	wantStates(t, normal("aaa", "aa"), 4)
	wantStates(t, normal("\u00e4"), 2)
	wantStates(t, normal("\u00e4", "\u00e5"), 3)
	wantStates(t, normal("\U0010ffff\U0010ffff\U0010ffff", "\U0010ffff\U0010fffe"), 5)
}

// many is n rules in order, whose Froms are of three runes, no two of them with a beginning in common.
func many(n int) []api.Rule {
	l := make([]api.Rule, n)
	for i := range l {
		l[i] = of(string([]rune{rune(0x4000 + i), 'a', 'b'}), "x", 1)
	}
	return l
}

// P8.1: as many rules as there may be, and one more.
func TestManyRules(t *testing.T) {
	l := many(api.MaxRules + 1)
	wantNoMachine(t, l, api.ErrMany)
	l = l[:api.MaxRules]
	wantStates(t, l, 1+3*api.MaxRules)
	m := machine(t, l)
	wantHits(t, m, "a"+l[0].From+l[4095].From+l[17].From[:4], []match.Hit{{At: 1, Rule: 0}, {At: 4, Rule: 4095}})
}

// P8.1: layer 7's error, and no machine beside it.
func TestNoMachine(t *testing.T) {
	for _, s := range noTexts {
		wantNoMachine(t, []api.Rule{of(s, "a", 1)}, api.ErrUTF)
		wantNoMachine(t, []api.Rule{of("a", s, 0)}, api.ErrUTF)
		wantNoMachine(t, []api.Rule{of("b", "", 1), of("a", s, 1)}, api.ErrUTF)
	}
	wantNoMachine(t, []api.Rule{of("abcd", "a", 1)}, api.ErrLong)
	wantNoMachine(t, []api.Rule{of("a", "\u00e4\u00e4\u00e4\u00e4", 0)}, api.ErrLong)
	wantNoMachine(t, []api.Rule{of("a", "a", 0)}, api.ErrForm)
	wantNoMachine(t, []api.Rule{of("", "", 1)}, api.ErrForm)
	wantNoMachine(t, []api.Rule{{}}, api.ErrForm)
	for _, cost := range []int{math.MinInt, -1, 0, api.MaxCost + 1, math.MaxInt} {
		wantNoMachine(t, []api.Rule{of("a", "", cost)}, api.ErrArg)
		wantNoMachine(t, []api.Rule{of("b", "", 1), of("a", "", cost)}, api.ErrArg)
	}
	wantNoMachine(t, []api.Rule{of("b", "", 1), of("a", "", 1)}, api.ErrForm)
	wantNoMachine(t, []api.Rule{of("a", "b", 1), of("a", "", 1)}, api.ErrForm)
	wantNoMachine(t, []api.Rule{of("a", "b", 1), of("a", "b", 2)}, api.ErrForm)
	disorder := many(api.MaxRules + 1)
	slices.Reverse(disorder)
	wantNoMachine(t, disorder, api.ErrForm)
	disorder[4096].Cost = 0
	wantNoMachine(t, disorder, api.ErrArg)
}

// P8.2: falling back finds what begins within another From, up to the end of the text.
func TestFallingBack(t *testing.T) {
	for _, froms := range [][]string{
		{"abc", "bd"}, {"abc", "bcd", "cde"}, {"abc", "bc", "c"}, {"abc", "c"}, {"ab", "bc", "cd", "d"},
		{"aab", "ab"}, {"aaa"}, {"aaa", "aa", "a"}, {"aab", "aba", "baa"}, {"abc", "b"}, {"a", "abc"}, {"", "abc", "bca"},
		{"aba", "bab"}, {"bb", "abb", "bba"}, {"", "", "a", "a", "ab", "ab", "b"},
	} {
		l := normal(froms...)
		m := machine(t, l)
		for _, s := range []string{"", "a", "b", "ab", "abd", "abcd", "abcde", "aaab", "aaaa", "aabab", "abaab", "abcabc", "abab", "babab", "cdab", "abbba", "acbcab", "dcba"} {
			wantHits(t, m, s, hitsOf(l, s))
		}
	}
}

// P8.2: an empty From hits at each place, the one behind all runes among them.
func TestEmptyFrom(t *testing.T) {
	m := machine(t, []api.Rule{of("", "a", 1), of("", "b", 1), of("c", "", 1)})
	wantHits(t, m, "", []match.Hit{{0, 0}, {0, 1}})
	wantHits(t, m, "\u00e4", []match.Hit{{0, 0}, {0, 1}, {1, 0}, {1, 1}})
	wantHits(t, m, "ac", []match.Hit{{0, 0}, {0, 1}, {1, 0}, {1, 1}, {1, 2}, {2, 0}, {2, 1}})
}

// P8.2: without rules, or without such runes, there are no hits.
func TestNothing(t *testing.T) {
	for _, l := range [][]api.Rule{nil, normal("abc"), normal("\xc3\xa4")} {
		m := machine(t, l)
		for _, s := range []string{"", "ab", "bc", "\u00e5", "\u00c3\u00a4", "cba", strings.Repeat("x", 64)} {
			wantHits(t, m, s, nil)
		}
	}
}

// P8.2: places are told in runes, whatever their bytes.
func TestRunes(t *testing.T) {
	l := normal("\x00", "a", "\u00e4", "\u00e4\u20ac", "\u20ac\U0010ffff\x00", "\ufffd", "\U0010ffff")
	m := machine(t, l)
	s := "\u00e4\u20ac\U0010ffff\x00a\ufffd"
	wantHits(t, m, s, hitsOf(l, s))
	if got, err := m.At(s, 4); !slices.Equal(got, []int{1}) || err != api.OK {
		t.Errorf("%v, %v", got, err)
	}
}

// P8.2: as many rules and runes as there may be: all of them hit everywhere.
func TestManyHits(t *testing.T) {
	l := make([]api.Rule, api.MaxRules)
	for i := range l {
		l[i] = of("", string(rune(0x4000+i)), 1)
	}
	m := machine(t, l)
	got, err := m.Hits(strings.Repeat("\u00e4", api.MaxToken))
	if err != api.OK || len(got) != (api.MaxToken+1)*api.MaxRules {
		t.Fatalf("%v hits, %v", len(got), err)
	}
	for i, h := range got {
		if h.At != i/api.MaxRules || h.Rule != i%api.MaxRules {
			t.Fatalf("%v: %v", i, h)
		}
	}
}

// P8.2: texts of up to MaxToken runes; the empty one, too.
func TestTextErrors(t *testing.T) {
	for _, l := range [][]api.Rule{nil, normal("", "a", "\u00e4")} {
		m := machine(t, l)
		for _, r := range []string{"a", "\x00", "\u00e4", "\U0010ffff"} {
			s := strings.Repeat(r, api.MaxToken)
			wantHits(t, m, s, hitsOf(l, s))
			wantNoHits(t, m, s+r, api.ErrLong)
			wantNoHits(t, m, strings.Repeat(s, 1000), api.ErrLong)
			wantNoHits(t, m, s+r+"\xff", api.ErrUTF)
		}
		for _, s := range noTexts {
			wantNoHits(t, m, s, api.ErrUTF)
		}
	}
}

// P8.2: a place is from 0 to how many runes there are, not bytes.
func TestNoPlace(t *testing.T) {
	m := machine(t, normal("", "a"))
	for _, s := range []string{"", "a", "\u00e4", "\u20ac\u20ac", strings.Repeat("a", 64)} {
		n := utf8.RuneCountInString(s)
		for _, at := range []int{math.MinInt, -1 << 32, -2, -1, n + 1, n + 2, 1 << 32, math.MaxInt} {
			wantNotAt(t, m, s, at, api.ErrArg)
		}
	}
}

// Of a nil Machine: ErrNil ahead of all else; States 0.
func TestNilMachine(t *testing.T) {
	var m *match.Machine
	for _, s := range append([]string{"", "a", strings.Repeat("a", 65)}, noTexts...) {
		wantNoHits(t, m, s, api.ErrNil)
	}
	if n := m.States(); n != 0 {
		t.Error(n)
	}
}

// P1: a Machine that New didn't make answers as one without rules.
func TestZeroMachine(t *testing.T) {
	var m match.Machine
	wantHits(t, &m, "", nil)
	wantHits(t, &m, "arn", nil)
	wantNoHits(t, &m, "\xff", api.ErrUTF)
	wantNotAt(t, &m, "a", 2, api.ErrArg)
	if n := m.States(); n != 1 {
		t.Error(n)
	}
}

// randomText is up to n runes of few letters, so that there are hits.
func randomText(r *rand.Rand, n int) string {
	letters := []rune{'a', 'b', 0xE4, 0x1F600}
	l := make([]rune, r.Intn(n+1))
	kinds := 1 + r.Intn(len(letters))
	for i := range l {
		l[i] = letters[r.Intn(kinds)]
	}
	return string(l)
}

func randomRules(r *rand.Rand) []api.Rule {
	var l []api.Rule
	for range r.Intn(25) {
		if x := of(randomText(r, 3), randomText(r, 3), 1+r.Intn(255)); x.From != x.To {
			l = append(l, x)
		}
	}
	l, _ = rule.Normal(l)
	return l
}

// P8.1, P8.2: random rules and texts, by the chapter's words.
func TestRandom(t *testing.T) {
	r := rand.New(rand.NewSource(8))
	for range 2000 {
		l := randomRules(r)
		m := machine(t, l)
		wantStates(t, l, statesOf(l))
		for range 3 {
			s := randomText(r, api.MaxToken)
			wantHits(t, m, s, hitsOf(l, s))
		}
	}
}

// P8.2: all texts of up to six runes, of two letters, and all Froms of them.
func TestAllShort(t *testing.T) {
	all := []string{""}
	for at := 0; len([]rune(all[at])) < 6; at++ {
		all = append(all, all[at]+"a", all[at]+"\u00e4")
	}
	for _, two := range [][]string{all[:15], all[1:15], all[7:15], all[3:7], {"a\u00e4a", "\u00e4\u00e4"}} {
		l := normal(two...)
		m := machine(t, l)
		for _, s := range all {
			wantHits(t, m, s, hitsOf(l, s))
		}
	}
}

// P8.3: hits of a text stand in each text that it stands in, further on.
func TestFurtherOn(t *testing.T) {
	r := rand.New(rand.NewSource(83))
	for range 2000 {
		m := machine(t, randomRules(r))
		ahead, s, behind := randomText(r, 20), randomText(r, 20), randomText(r, 20)
		inner, err := m.Hits(s)
		outer, errOuter := m.Hits(ahead + s + behind)
		if err != api.OK || errOuter != api.OK {
			t.Fatal(err, errOuter)
		}
		for _, h := range inner {
			h.At += utf8.RuneCountInString(ahead)
			if !slices.Contains(outer, h) {
				t.Fatalf("%q, %q, %q: no %v in %v", ahead, s, behind, h, outer)
			}
			if rules, err := m.At(ahead+s+behind, h.At); !slices.Contains(rules, h.Rule) || err != api.OK {
				t.Fatalf("%q, %q, %q: no %v in %v, %v", ahead, s, behind, h, rules, err)
			}
		}
	}
}

// Rule 4: rules that are handed in are not changed, their spare room included, and not kept.
func TestRulesAreKept(t *testing.T) {
	whole := normal("", "n", "rn", "rn", "x")
	kept := slices.Clone(whole)
	m := machine(t, whole[:3])
	if !slices.Equal(whole, kept) {
		t.Error(whole)
	}
	clear(whole)
	wantHits(t, m, "rn", hitsOf(kept[:3], "rn"))
}

// Rule 4, rule 5: an answer is new memory, and hangs on nothing that was asked ahead of it.
func TestAnswersAreNew(t *testing.T) {
	l := normal("", "", "a", "a", "ab", "b")
	m := machine(t, l)
	want := hitsOf(l, "ab")
	for range 3 {
		hits, _ := m.Hits("ab")
		clear(hits[:cap(hits)])
		for at := range 3 {
			rules, _ := m.At("ab", at)
			clear(rules[:cap(rules)])
		}
		wantNoHits(t, m, "a\xff", api.ErrUTF)
		wantHits(t, m, "ab", want)
	}
}

// Rule 5: machines are independent of one another.
func TestIndependent(t *testing.T) {
	one, two := normal("a", "ab"), normal("b", "ba", "c")
	m, other := machine(t, one), machine(t, two)
	wantHits(t, m, "abab", hitsOf(one, "abab"))
	wantHits(t, other, "abab", hitsOf(two, "abab"))
	wantHits(t, m, "abab", hitsOf(one, "abab"))
	if m.States() != 3 || other.States() != 4 {
		t.Error(m.States(), other.States())
	}
}

// P1, P8.1, P8.2: whatever the rules and the text are, a call answers, and by the chapter's words.
func FuzzMatch(f *testing.F) {
	f.Add("n", "rn", "arn", 1)
	f.Add("", "a\u00e4a", "a\u00e4a\u00e4a", 2)
	f.Add("\xff", "a", "\xff", -1)
	f.Add("abcd", "", strings.Repeat("a", 65), 65)
	f.Fuzz(func(t *testing.T, a, b, s string, at int) {
		l := []api.Rule{of(a, "x", 1), of(b, "y", 2)}
		m, err := match.New(l)
		if want := rule.Is(l); err != want || (m == nil) != (want != api.OK) {
			t.Fatalf("New(%v) = %v, %v; want %v", l, m, err, want)
		}
		want := api.OK
		var hits []match.Hit
		switch {
		case m == nil:
			want = api.ErrNil
		case !utf8.ValidString(s):
			want = api.ErrUTF
		case utf8.RuneCountInString(s) > api.MaxToken:
			want = api.ErrLong
		default:
			hits = hitsOf(l, s)
		}
		if got, err := m.Hits(s); !slices.Equal(got, hits) || err != want {
			t.Fatalf("%v: Hits(%q) = %v, %v; want %v, %v", l, s, got, err, hits, want)
		}
		if want == api.OK && (at < 0 || at > utf8.RuneCountInString(s)) {
			want = api.ErrArg
		}
		if got, err := m.At(s, at); !slices.Equal(got, rulesAt(hits, at)) || err != want {
			t.Fatalf("%v: At(%q, %v) = %v, %v; want %v", l, s, at, got, err, want)
		}
	})
}
