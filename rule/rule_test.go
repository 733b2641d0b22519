package rule_test

import (
	"fmt"
	"math"
	"math/rand"
	"slices"
	"strings"
	"testing"
	"unicode/utf8"

	"errata/api"
	"errata/count"
	"errata/logcost"
	"errata/rule"
)

func of(from, to string, cost int) api.Rule { return api.Rule{From: from, To: to, Cost: cost} }
func seen(from, to string, n int) api.Block { return api.Block{From: from, To: to, N: n} }

// pairs is what was read and what should have been, in turn.
func pairs(s ...string) []api.Pair {
	var l []api.Pair
	for two := range slices.Chunk(s, 2) {
		l = append(l, api.Pair{Noisy: two[0], Truth: two[1]})
	}
	return l
}

// noTexts are bytes that are no text.
var noTexts = []string{"\x80", "\xff", "a\xff", "\xffa", "a\xc3", "\xc0\x80", "\xed\xa0\x80", "\xf4\x90\x80\x80", "ab\xe2\x82", "abcd\xff"}

// wrong are rules that may not be, with why.
var wrong = []struct {
	r   api.Rule
	err api.Errno
}{
	{of("\xff", "a", 1), api.ErrUTF},
	{of("a", "\xc0\x80", 0), api.ErrUTF},
	{of("abcd", "\xed\xa0\x80", 1), api.ErrUTF},
	{of("abcd", "", 1), api.ErrLong},
	{of("", "\u00e4\u00e4\u00e4\u00e4", -1), api.ErrLong},
	{of("abcd", "abcd", 1), api.ErrLong},
	{of("", "", 1), api.ErrForm},
	{of("ab", "ab", 0), api.ErrForm},
	{of("b", "", 0), api.ErrArg},
	{of("b", "", -1), api.ErrArg},
	{of("b", "", math.MinInt), api.ErrArg},
	{of("b", "", api.MaxCost+1), api.ErrArg},
	{of("b", "", math.MaxInt), api.ErrArg},
}

// inOrder are rules, each one standing ahead of the next one.
var inOrder = []api.Rule{
	of("", "\x00", 1), of("", "a", 255), of("", "aa", 3), of("\x00", "", 4),
	of("Z", "a", 5), of("a", "", 6), of("a", "Z", 7), of("a", "aa", 8), of("a", "b", 1), of("a\x00", "", 10), of("aa", "a", 11), of("b", "a", 12),
	of("\u00e4", "ae", 13), of("\uffff", "", 14), of("\U00010000", "", 15),
}

// distinct is n rules in order, no two of one From and To.
func distinct(n int) []api.Rule {
	l := make([]api.Rule, n)
	for i := range l {
		l[i] = of(string([]rune{rune('A' + i/1024), rune(0x4000 + i%1024)}), "x", 1+i%api.MaxCost)
	}
	return l
}

// distinctBlocks is n blocks in order, no two of one From and To.
func distinctBlocks(n int) []api.Block {
	var l []api.Block
	for i, r := range distinct(n) {
		l = append(l, seen(r.From, r.To, 1+i%7))
	}
	return l
}

func reversed[T any](l []T) []T {
	l = slices.Clone(l)
	slices.Reverse(l)
	return l
}

func wantCheck(t *testing.T, from, to string, cost int, want api.Errno) {
	t.Helper()
	for range 2 {
		if err := rule.Check(of(from, to, cost)); err != want {
			t.Errorf("Check(%.40q, %.40q, %v) = %v; want %v", from, to, cost, err, want)
		}
		if err := rule.Is([]api.Rule{of(from, to, cost)}); err != want {
			t.Errorf("Is(%.40q, %.40q, %v) = %v; want %v", from, to, cost, err, want)
		}
		from, to = to, from
	}
}

func wantFind(t *testing.T, l []api.Rule, from, to string, want int, wantErr api.Errno) {
	t.Helper()
	if n, err := rule.Find(l, from, to); n != want || err != wantErr {
		t.Errorf("Find(%.200v, %.40q, %.40q) = %v, %v; want %v, %v", fmt.Sprint(l), from, to, n, err, want, wantErr)
	}
}

// wantIs says that l is normal.
func wantIs(t *testing.T, l []api.Rule) {
	t.Helper()
	if err := rule.Is(l); err != api.OK {
		t.Errorf("Is(%.200v) = %v", fmt.Sprint(l), err)
	}
	step := 1 + len(l)/20
	for i, r := range l {
		// Each Find checks all rules: of many some are enough.
		if i%step == 0 {
			wantFind(t, l, r.From, r.To, r.Cost, api.OK)
		}
	}
}

// wantIsNot says that l isn't normal, and why.
func wantIsNot(t *testing.T, l []api.Rule, want api.Errno) {
	t.Helper()
	if err := rule.Is(l); err != want {
		t.Errorf("Is(%.200v) = %v; want %v", fmt.Sprint(l), err, want)
	}
	wantFind(t, l, "a", "b", 0, want)
}

func wantNormal(t *testing.T, l, want []api.Rule) {
	t.Helper()
	if got, err := rule.Normal(l); !slices.Equal(got, want) || err != api.OK {
		t.Errorf("Normal(%.200v) = %.200v, %v; want %.200v", fmt.Sprint(l), fmt.Sprint(got), err, fmt.Sprint(want))
	}
	wantIs(t, want)
}

func wantNoNormal(t *testing.T, l []api.Rule, want api.Errno) {
	t.Helper()
	if got, err := rule.Normal(l); len(got) != 0 || err != want {
		t.Errorf("Normal(%.200v) = %.200v, %v; want %v", fmt.Sprint(l), fmt.Sprint(got), err, want)
	}
}

func wantMake(t *testing.T, l []api.Block, least int, want []api.Rule) {
	t.Helper()
	if got, err := rule.Make(l, least); !slices.Equal(got, want) || err != api.OK {
		t.Errorf("Make(%.200v, %v) = %.200v, %v; want %.200v", fmt.Sprint(l), least, fmt.Sprint(got), err, fmt.Sprint(want))
	}
	wantIs(t, want)
}

func wantNoMake(t *testing.T, l []api.Block, least int, want api.Errno) {
	t.Helper()
	if got, err := rule.Make(l, least); len(got) != 0 || err != want {
		t.Errorf("Make(%.200v, %v) = %.200v, %v; want %v", fmt.Sprint(l), least, fmt.Sprint(got), err, want)
	}
}

func wantLearn(t *testing.T, l []api.Pair, least int, want []api.Rule) {
	t.Helper()
	if got, err := rule.Learn(l, least); !slices.Equal(got, want) || err != api.OK {
		t.Errorf("Learn(%.200v, %v) = %.200v, %v; want %.200v", fmt.Sprint(l), least, fmt.Sprint(got), err, fmt.Sprint(want))
	}
}

func wantNoLearn(t *testing.T, l []api.Pair, least int, want api.Errno) {
	t.Helper()
	if got, err := rule.Learn(l, least); len(got) != 0 || err != want {
		t.Errorf("Learn(%.200v, %v) = %.200v, %v; want %v", fmt.Sprint(l), least, fmt.Sprint(got), err, want)
	}
}

// P7.1: rules that may be, up to the edges.
func TestCheck(t *testing.T) {
	for _, cost := range []int{1, 2, api.MaxCost - 1, api.MaxCost} {
		wantCheck(t, "rn", "m", cost, api.OK)
		wantCheck(t, "a", "", cost, api.OK)
		wantCheck(t, "\x00", "", cost, api.OK)
		wantCheck(t, "\x00", "\x00\x00", cost, api.OK)
		wantCheck(t, "abc", "abd", cost, api.OK)
		wantCheck(t, "abc", "\u00e4\u20ac\ufffd", cost, api.OK)
		wantCheck(t, "\U0010ffff\U0010ffff\U0010ffff", "\U0010ffff\U0010ffff", cost, api.OK)
		wantCheck(t, "  ", "-", cost, api.OK)
	}
}

// P7.1: the first of the errors is told.
func TestCheckErrors(t *testing.T) {
	for _, cost := range []int{math.MinInt, -1, 0, 1, api.MaxCost, api.MaxCost + 1, math.MaxInt} {
		for _, s := range noTexts {
			for _, other := range []string{"a", "", "abcd", s} {
				wantCheck(t, s, other, cost, api.ErrUTF)
			}
		}
		for _, s := range []string{"abcd", "\u00e4\u00e4\u00e4\u00e4", "\x00\x00\x00\x00", strings.Repeat("a", 100000)} {
			for _, other := range []string{"a", "", "abcd", s} {
				wantCheck(t, s, other, cost, api.ErrLong)
			}
		}
		for _, s := range []string{"", "a", "\x00", "abc", "\U0010ffff\U0010ffff\U0010ffff"} {
			wantCheck(t, s, s, cost, api.ErrForm)
		}
	}
	for _, cost := range []int{math.MinInt, -api.MaxCost, -1, 0, api.MaxCost + 1, 257, 1 << 31, 1<<32 + 1, math.MaxInt} {
		wantCheck(t, "a", "b", cost, api.ErrArg)
		wantCheck(t, "a", "", cost, api.ErrArg)
	}
}

// P7.1: by From, then by To, by their bytes, of any rules; Cost isn't looked at.
func TestLess(t *testing.T) {
	all := append([]api.Rule{{}}, inOrder...)
	all = append(all, of("\xff", "\x80", 0), of("\xff", "\xff", 0), of("\xff\xff", strings.Repeat("a", 1000), 0))
	costs := []int{math.MinInt, -1, 0, 1, 2, math.MaxInt}
	for i, a := range all {
		for j, b := range all {
			for _, n := range costs {
				for _, m := range costs {
					a.Cost, b.Cost = n, m
					if got := rule.Less(a, b); got != (i < j) {
						t.Fatalf("Less(%.200v, %.200v) = %v", a, b, got)
					}
				}
			}
		}
	}
}

// P7.1: normal rules, none among them.
func TestIs(t *testing.T) {
	wantIs(t, nil)
	wantIs(t, []api.Rule{})
	wantIs(t, []api.Rule{of("rn", "m", 9)})
	wantIs(t, []api.Rule{of("l", "i", 9), of("rn", "m", 2)})
	wantIs(t, inOrder)
}

// P7.1: in order, no two of one From and To, whatever their costs.
func TestOrder(t *testing.T) {
	for i, a := range inOrder {
		for j, b := range inOrder {
			if i < j {
				wantIs(t, []api.Rule{a, b})
				continue
			}
			for _, cost := range []int{1, a.Cost, api.MaxCost} {
				b.Cost = cost
				wantIsNot(t, []api.Rule{a, b}, api.ErrForm)
			}
		}
	}
	for i := range len(inOrder) - 1 {
		l := slices.Clone(inOrder)
		l[i], l[i+1] = l[i+1], l[i]
		wantIsNot(t, l, api.ErrForm)
		wantIsNot(t, slices.Insert(slices.Clone(inOrder), i, inOrder[i]), api.ErrForm)
		wantIsNot(t, append(slices.Clone(inOrder), inOrder[i]), api.ErrForm)
	}
}

// P7.1, P7.2: a rule that may not be is told of, wherever it stands, ahead of all else.
func TestWrongRules(t *testing.T) {
	l := []api.Rule{of("", "b", 1), of("a", "b", 3), of("l", "i", 1)}
	many := distinct(api.MaxRules + 1)
	for _, x := range wrong {
		lists := [][]api.Rule{{x.r}, append(slices.Clone(many), x.r), append(reversed(many), x.r), {l[0], l[0], x.r}}
		for i := range len(l) + 1 {
			lists = append(lists, slices.Insert(slices.Clone(l), i, x.r), slices.Insert(reversed(l), i, x.r))
		}
		for _, y := range wrong {
			lists = append(lists, []api.Rule{x.r, y.r}, []api.Rule{l[2], x.r, l[1], y.r})
		}
		for _, l := range lists {
			wantIsNot(t, l, x.err)
			wantNoNormal(t, l, x.err)
		}
	}
}

// P7.1: as many as may be, and one more; the order is told of first.
func TestTooManyRules(t *testing.T) {
	l := distinct(api.MaxRules + 1)
	wantIs(t, l[:api.MaxRules-1])
	wantIs(t, l[:api.MaxRules])
	wantIsNot(t, l, api.ErrMany)
	wantIsNot(t, distinct(3*api.MaxRules), api.ErrMany)
	wantIsNot(t, reversed(l), api.ErrForm)
	l[api.MaxRules].From = l[0].From
	wantIsNot(t, l, api.ErrForm)
	l[api.MaxRules] = l[api.MaxRules-1]
	wantIsNot(t, l, api.ErrForm)
}

// P7.2: each From and To once, with the least cost, in order.
func TestNormal(t *testing.T) {
	wantNormal(t, nil, nil)
	wantNormal(t, []api.Rule{}, nil)
	wantNormal(t, inOrder, inOrder)
	wantNormal(t, reversed(inOrder), inOrder)
	wantNormal(t, append(reversed(inOrder), inOrder...), inOrder)
	wantNormal(t, []api.Rule{of("rn", "m", 9), of("a", "b", 3), of("rn", "m", 4), of("a", "", 7)}, []api.Rule{of("a", "", 7), of("a", "b", 3), of("rn", "m", 4)})
	for _, costs := range [][]int{{4, 9, 200}, {4, 200, 9}, {9, 4, 200}, {9, 200, 4}, {200, 4, 9}, {200, 9, 4}, {4, 4, 9}, {9, 4, 4}, {4, 4, 4}} {
		var l []api.Rule
		for _, c := range costs {
			l = append(l, of("rn", "m", c), of("l", "i", 256-c))
		}
		wantNormal(t, l, []api.Rule{of("l", "i", 256-slices.Max(costs)), of("rn", "m", 4)})
	}
	// The sides are told apart by more than by what they are together.
	wantNormal(t, []api.Rule{of("ab", "", 1), of("a", "b", 2), of("", "ab", 4)}, []api.Rule{of("", "ab", 4), of("a", "b", 2), of("ab", "", 1)})
	wantNormal(t, []api.Rule{of("a\x00", "b", 1), of("a", "\x00b", 2)}, []api.Rule{of("a", "\x00b", 2), of("a\x00", "b", 1)})
}

// P7.2: the rules that there would be are counted, not those that they are made of.
func TestNormalOfMany(t *testing.T) {
	all := distinct(api.MaxRules + 1)
	most := all[:api.MaxRules]
	wantNormal(t, most, most)
	wantNormal(t, reversed(most), most)
	wantNormal(t, append(reversed(most), most...), most)
	wantNormal(t, slices.Repeat([]api.Rule{of("rn", "m", 3)}, 100000), []api.Rule{of("rn", "m", 3)})
	wantNoNormal(t, all, api.ErrMany)
	wantNoNormal(t, reversed(all), api.ErrMany)
	wantNoNormal(t, append(reversed(all), all...), api.ErrMany)
	wantNoNormal(t, distinct(10*api.MaxRules), api.ErrMany)
}

// P7.2: random rules, against a list in which each stands at its least cost.
func TestNormalOfAny(t *testing.T) {
	r := rand.New(rand.NewSource(72))
	side := []string{"", "a", "b", "ab", "\u00e4", "rn", "\U0001f600a"}
	for range 3000 {
		var l, want []api.Rule
		for range r.Intn(40) {
			from, to := side[r.Intn(len(side))], side[r.Intn(len(side))]
			if from != to {
				l = append(l, of(from, to, 1+r.Intn(api.MaxCost)))
			}
		}
		for _, from := range slices.Sorted(slices.Values(side)) {
			for _, to := range slices.Sorted(slices.Values(side)) {
				least := math.MaxInt
				for _, x := range l {
					if x.From == from && x.To == to {
						least = min(least, x.Cost)
					}
				}
				if least < math.MaxInt {
					want = append(want, of(from, to, least))
				}
			}
		}
		wantNormal(t, l, want)
		wantNormal(t, want, want)
	}
}

// P7.2: what is there is found by both its sides, whatever is asked for.
func TestFind(t *testing.T) {
	l := []api.Rule{of("", "b", 3), of("a", "", 4), of("a", "b", 5), of("l", "i", 1), of("rn", "m", 255)}
	for _, r := range l {
		wantFind(t, l, r.From, r.To, r.Cost, api.OK)
		wantFind(t, l, r.To, r.From, 0, api.ErrNone)
		wantFind(t, nil, r.From, r.To, 0, api.ErrNone)
	}
	for _, s := range []string{"", "\x00", "a", "b", "i", "l", "m", "rn", "rnm", "z", "\xff", "\xc0\x80", strings.Repeat("a", 100000)} {
		wantFind(t, l, s, s, 0, api.ErrNone)
		wantFind(t, l, s, "c", 0, api.ErrNone)
		wantFind(t, l, "c", s, 0, api.ErrNone)
		wantFind(t, l, s, "\xff", 0, api.ErrNone)
		wantFind(t, nil, s, s, 0, api.ErrNone)
	}
	wantFind(t, l, "r", "nm", 0, api.ErrNone)
	wantFind(t, l, "rnm", "", 0, api.ErrNone)
}

// P7.2: each of many is found, and nothing between them.
func TestFindAmongMany(t *testing.T) {
	l := distinct(300)
	for _, r := range l {
		wantFind(t, l, r.From, r.To, r.Cost, api.OK)
		wantFind(t, l, r.From, "w", 0, api.ErrNone)
		wantFind(t, l, r.From, "y", 0, api.ErrNone)
		wantFind(t, l, r.From+"a", r.To, 0, api.ErrNone)
	}
}

// P7.3: the costs are of the whole table, whatever is left out of it.
func TestMake(t *testing.T) {
	table := []api.Block{seen("l", "i", 1), seen("rn", "m", 2)}
	wantMake(t, table, 1, []api.Rule{of("l", "i", 21), of("rn", "m", 11)})
	wantMake(t, table, 2, []api.Rule{of("rn", "m", 11)})
	wantMake(t, table, 3, nil)
	wantMake(t, table, api.MaxCount, nil)
	wantMake(t, nil, 1, nil)
	wantMake(t, []api.Block{}, api.MaxCount, nil)
	wantMake(t, []api.Block{seen("", "a", 1)}, 1, []api.Rule{of("", "a", 1)})
	// Fifteen and two kinds together are 17: Ratio(17, 2) is 49, Ratio(17, 15) is 2.
	wantMake(t, []api.Block{seen("a", "", 1), seen("b", "", 14)}, 1, []api.Rule{of("a", "", 49), of("b", "", 2)})
}

// P7.3: costs are from 1 to MaxCost, up to the greatest Ns.
func TestMakeEdges(t *testing.T) {
	wantMake(t, []api.Block{seen("a", "", api.MaxCount)}, api.MaxCount, []api.Rule{of("a", "", 1)})
	wantMake(t, []api.Block{seen("a", "", api.MaxCount-1)}, api.MaxCount, nil)
	wantMake(t, []api.Block{seen("a", "", 1), seen("b", "", api.MaxCount-1)}, 1, []api.Rule{of("a", "", api.MaxCost), of("b", "", 1)})
	wantMake(t, []api.Block{seen("a", "", api.MaxCount/2), seen("b", "", api.MaxCount/2)}, 1, []api.Rule{of("a", "", 16), of("b", "", 16)})
	// Three and three kinds together are 6: Ratio(6, 2) is 25.
	wantMake(t, []api.Block{seen("a", "", 1), seen("b", "", 1), seen("c", "", 1)}, 1, []api.Rule{of("a", "", 25), of("b", "", 25), of("c", "", 25)})
	for _, n := range []int{1, 100, api.MaxRules} {
		l := distinctBlocks(n)
		var want []api.Rule
		total, _ := count.Total(l)
		for _, b := range l {
			cost, _ := logcost.Cost(total, n, b.N)
			want = append(want, of(b.From, b.To, cost))
		}
		wantMake(t, l, 1, want)
	}
}

// P7.3: what is no table is told of ahead of what is wrong with least.
func TestMakeErrors(t *testing.T) {
	table := []api.Block{seen("l", "i", 1), seen("rn", "m", 2)}
	wrongLeast := []int{math.MinInt, -1, 0, api.MaxCount + 1, 1 << 31, 1<<32 + 1, math.MaxInt}
	for _, least := range wrongLeast {
		wantNoMake(t, table, least, api.ErrArg)
		wantNoMake(t, nil, least, api.ErrArg)
	}
	noTables := []struct {
		l   []api.Block
		err api.Errno
	}{
		{reversed(table), api.ErrForm},
		{[]api.Block{table[0], table[0]}, api.ErrForm},
		{[]api.Block{seen("a", "b", 1), seen("\xff", "", 1)}, api.ErrUTF},
		{[]api.Block{seen("a", "b", 1), seen("abcd", "", 1)}, api.ErrLong},
		{[]api.Block{seen("b", "b", 1)}, api.ErrForm},
		{[]api.Block{seen("b", "", 0)}, api.ErrArg},
		{[]api.Block{seen("a", "", 1), seen("b", "", api.MaxCount)}, api.ErrMany},
		{distinctBlocks(api.MaxRules + 1), api.ErrMany},
	}
	for _, x := range noTables {
		for _, least := range append(wrongLeast, 1, 2, api.MaxCount) {
			wantNoMake(t, x.l, least, x.err)
		}
	}
}

// P7.3: the rules of pairs; what is left out of their table counts nowhere.
func TestLearn(t *testing.T) {
	l := pairs("arn", "am", "rnb", "mb", "lt", "it")
	wantLearn(t, l, 1, []api.Rule{of("l", "i", 21), of("rn", "m", 11)})
	wantLearn(t, l, 2, []api.Rule{of("rn", "m", 11)})
	wantLearn(t, l, 3, nil)
	wantLearn(t, l, api.MaxCount, nil)
	wantLearn(t, reversed(l), 1, []api.Rule{of("l", "i", 21), of("rn", "m", 11)})
	wantLearn(t, append(l, pairs("a", "a", "wxyz", "abcd")...), 2, []api.Rule{of("rn", "m", 11)})
	wantLearn(t, nil, 1, nil)
	wantLearn(t, pairs("a", "a"), 1, nil)
	wantLearn(t, pairs("z\u00e4xz", "y\u00e4wy"), 1, []api.Rule{of("xz", "wy", 16), of("z", "y", 16)})
}

// P7.3: what is wrong with pairs is told of ahead of what is wrong with least.
func TestLearnErrors(t *testing.T) {
	l := pairs("arn", "am", "lt", "it")
	long := strings.Repeat("\u00e4", api.MaxToken+1)
	wrongLeast := []int{math.MinInt, -1, 0, api.MaxCount + 1, math.MaxInt}
	for _, least := range wrongLeast {
		wantNoLearn(t, l, least, api.ErrArg)
		wantNoLearn(t, nil, least, api.ErrArg)
	}
	var kinds []api.Pair
	for i := range api.MaxRules + 1 {
		kinds = append(kinds, api.Pair{Noisy: string(rune(0x4000 + i)), Truth: "x"})
	}
	for _, least := range append(wrongLeast, 1, 2, api.MaxCount) {
		wantNoLearn(t, append(pairs("", "a"), l...), least, api.ErrEmpty)
		wantNoLearn(t, append(pairs("a", "a"), pairs("a", "\xff", "", "a")...), least, api.ErrUTF)
		wantNoLearn(t, append(pairs("a", "b"), pairs(long, "\xff")...), least, api.ErrLong)
		wantNoLearn(t, kinds, least, api.ErrMany)
		wantNoLearn(t, make([]api.Pair, api.MaxPairs+1), least, api.ErrMany)
	}
	if got, err := rule.Learn(kinds[1:], 1); len(got) != api.MaxRules || err != api.OK {
		t.Error(len(got), err)
	}
}

// isNormal says whether rules are normal, by the chapter's words.
func isNormal(l []api.Rule) bool {
	for i, r := range l {
		if !utf8.ValidString(r.From) || !utf8.ValidString(r.To) || utf8.RuneCountInString(r.From) > 3 || utf8.RuneCountInString(r.To) > 3 {
			return false
		}
		if r.From == r.To || r.Cost < 1 || r.Cost > 255 {
			return false
		}
		if i > 0 && (l[i-1].From > r.From || l[i-1].From == r.From && l[i-1].To >= r.To) {
			return false
		}
	}
	return len(l) <= 4096
}

// randomTable is the table of random blocks, with Ns of every size.
func randomTable(t *testing.T, r *rand.Rand) []api.Block {
	side := []string{"", "a", "b", "ab", "\u00e4", "rn", "\U0001f600a", "m", "abc"}
	var l []api.Block
	for range r.Intn(60) {
		from, to := side[r.Intn(len(side))], side[r.Intn(len(side))]
		if from != to {
			l = append(l, seen(from, to, 1+r.Intn(1<<r.Intn(24))))
		}
	}
	table, err := count.Table(l)
	if err != api.OK {
		t.Fatalf("Table(%v): %v", l, err)
	}
	return table
}

// P7.4: what is made is normal, and what was seen more often costs no more.
func TestMadeIsNormal(t *testing.T) {
	r := rand.New(rand.NewSource(74))
	for range 2000 {
		table := randomTable(t, r)
		l, err := rule.Make(table, 1)
		if err != api.OK || len(l) != len(table) || !isNormal(l) || rule.Is(l) != api.OK {
			t.Fatalf("Make(%v, 1) = %v, %v", table, l, err)
		}
		for i, a := range table {
			for j, b := range table {
				if a.N >= b.N && l[i].Cost > l[j].Cost {
					t.Fatalf("Make(%v, 1): %v costs more than %v", table, l[i], l[j])
				}
			}
		}
		wantNormal(t, l, l)
	}
}

// P7.4: with a greater least there are fewer rules, of the same costs: just those seen as often.
func TestGreaterLeast(t *testing.T) {
	r := rand.New(rand.NewSource(704))
	for range 1000 {
		table := randomTable(t, r)
		all, err := rule.Make(table, 1)
		if err != api.OK {
			t.Fatalf("Make(%v, 1): %v", table, err)
		}
		least := 1 + r.Intn(1<<r.Intn(24))
		if len(table) > 0 && r.Intn(2) == 0 {
			// Where one block stands at the edge itself, or just behind it.
			least = table[r.Intn(len(table))].N + r.Intn(2)
		}
		var want []api.Rule
		for i, b := range table {
			if b.N >= least {
				want = append(want, all[i])
			}
		}
		wantMake(t, table, least, want)
	}
}

// P7.4: what is learnt is that, too: in whatever order the pairs come, it is the rules of their table.
func TestLearntIsMade(t *testing.T) {
	r := rand.New(rand.NewSource(743))
	token := func() string {
		letters := []rune{'a', 'b', 0xE4, 0x1F600}
		l := make([]rune, 1+r.Intn(8))
		for i := range l {
			l[i] = letters[r.Intn(len(letters))]
		}
		return string(l)
	}
	for range 500 {
		var l []api.Pair
		for range r.Intn(40) {
			l = append(l, api.Pair{Noisy: token(), Truth: token()})
		}
		table, err := count.Pairs(l)
		if err != api.OK {
			t.Fatalf("Pairs(%v): %v", l, err)
		}
		least := 1 + r.Intn(4)
		made, err := rule.Make(table, least)
		if err != api.OK || !isNormal(made) {
			t.Fatalf("Make(%v, %v) = %v, %v", table, least, made, err)
		}
		wantLearn(t, l, least, made)
		r.Shuffle(len(l), func(i, j int) { l[i], l[j] = l[j], l[i] })
		wantLearn(t, l, least, made)
	}
}

// Rule 4: what is handed in is not changed, its spare room included, and not kept.
func TestArgumentsAreKept(t *testing.T) {
	whole := []api.Rule{of("rn", "m", 9), of("a", "b", 3), of("rn", "m", 4), of("a", "", 7), of("", "z", 1)}
	kept := slices.Clone(whole)
	got, err := rule.Normal(whole[:4])
	want := []api.Rule{of("a", "", 7), of("a", "b", 3), of("rn", "m", 4)}
	if err != api.OK || !slices.Equal(whole, kept) || rule.Is(whole[:4]) != api.ErrForm {
		t.Error(whole, err)
	}
	clear(whole)
	if !slices.Equal(got, want) {
		t.Error(got)
	}
	if again, err := rule.Normal(got[:2]); !slices.Equal(again, want[:2]) || err != api.OK || !slices.Equal(got, want) {
		t.Error(again, got, err)
	}
	blocks := []api.Block{seen("l", "i", 1), seen("rn", "m", 2), seen("z", "", 5)}
	keptBlocks := slices.Clone(blocks)
	made, err := rule.Make(blocks[:2], 2)
	if err != api.OK || !slices.Equal(blocks, keptBlocks) {
		t.Error(blocks, err)
	}
	clear(blocks)
	if !slices.Equal(made, []api.Rule{of("rn", "m", 11)}) {
		t.Error(made)
	}
}

// Rule 4, rule 5: an answer is new memory, its spare room too, and hangs on the arguments alone.
func TestAnswersAreNew(t *testing.T) {
	want := []api.Rule{of("a", "", 7), of("rn", "m", 4)}
	first, _ := rule.Normal(want)
	second, _ := rule.Normal(want)
	clear(first[:cap(first)])
	if !slices.Equal(second, want) || want[0] != of("a", "", 7) {
		t.Error(second, want)
	}
	table := []api.Block{seen("l", "i", 1), seen("rn", "m", 2)}
	made, _ := rule.Make(table, 1)
	again, _ := rule.Make(table, 1)
	clear(made[:cap(made)])
	if !slices.Equal(again, []api.Rule{of("l", "i", 21), of("rn", "m", 11)}) {
		t.Error(again)
	}
}
