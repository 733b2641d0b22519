package price_test

import (
	"fmt"
	"math"
	"math/rand"
	"slices"
	"strings"
	"testing"
	"unicode/utf8"

	"errata/api"
	"errata/price"
	"errata/rule"
)

func of(from, to string, cost int) api.Rule { return api.Rule{From: from, To: to, Cost: cost} }

// normal is these rules in order, each From and To once.
func normal(t *testing.T, some ...api.Rule) []api.Rule {
	t.Helper()
	l, err := rule.Normal(some)
	if err != api.OK {
		t.Fatalf("Normal(%v) = %v", some, err)
	}
	return l
}

// show is what is in a list, but not all of a long one.
func show(l []api.Rule) string {
	return fmt.Sprintf("%.300s", fmt.Sprintf("%+v", l))
}

func wantPrice(t *testing.T, l []api.Rule, noisy, w string, want int, wantErr api.Errno) {
	t.Helper()
	if n, err := price.Price(l, noisy, w); n != want || err != wantErr {
		t.Errorf("Price(%v, %.90q, %.90q) = %v, %v; want %v, %v", show(l), noisy, w, n, err, want, wantErr)
	}
}

func wantWithin(t *testing.T, l []api.Rule, noisy, w string, budget, want int, wantErr api.Errno) {
	t.Helper()
	if n, err := price.Within(l, noisy, w, budget); n != want || err != wantErr {
		t.Errorf("Within(%v, %.90q, %.90q, %v) = %v, %v; want %v, %v", show(l), noisy, w, budget, n, err, want, wantErr)
	}
}

func wantParts(t *testing.T, l []api.Rule, noisy, w string, want []api.Rule, wantErr api.Errno) {
	t.Helper()
	if p, err := price.Parts(l, noisy, w); !slices.Equal(p, want) || err != wantErr {
		t.Errorf("Parts(%v, %.90q, %.90q) = %v, %v; want %v, %v", show(l), noisy, w, show(p), err, show(want), wantErr)
	}
}

func wantSum(t *testing.T, l []api.Rule, from, to string, cost int) {
	t.Helper()
	if a, b, n := price.Sum(l); a != from || b != to || n != cost {
		t.Errorf("Sum(%v) = %.90q, %.90q, %v; want %.90q, %.90q, %v", show(l), a, b, n, from, to, cost)
	}
}

// budgets are some about a price, those at the bounds, and those beyond them.
func budgets(n int) []int {
	return []int{math.MinInt, -1, 0, 1, n - 1, n, n + 1, api.MaxBudget - 1, api.MaxBudget, api.MaxBudget + 1, math.MaxInt}
}

// wantError says that each call answers that error, whatever the budget is.
func wantError(t *testing.T, l []api.Rule, noisy, w string, want api.Errno) {
	t.Helper()
	wantPrice(t, l, noisy, w, 0, want)
	wantParts(t, l, noisy, w, nil, want)
	for _, budget := range budgets(0) {
		wantWithin(t, l, noisy, w, budget, 0, want)
	}
}

// split is the first rune of s and the rest, or two empty texts.
func split(s string) (string, string) {
	_, n := utf8.DecodeRuneInString(s)
	return s[:n], s[n:]
}

// firsts is all parts with which noisy may be begun to be read for w, in the chapter's order.
func firsts(l []api.Rule, noisy, w string) []api.Rule {
	var some []api.Rule
	a, _ := split(noisy)
	b, _ := split(w)
	if a != "" && a == b {
		some = append(some, of(a, b, 0))
	}
	for _, r := range l {
		if strings.HasPrefix(noisy, r.From) && strings.HasPrefix(w, r.To) {
			some = append(some, r)
		}
	}
	if a != "" && b != "" && a != b {
		some = append(some, of(a, b, api.MaxCost))
	}
	if a != "" {
		some = append(some, of(a, "", api.MaxCost))
	}
	if b != "" {
		some = append(some, of("", b, api.MaxCost))
	}
	return some
}

// ways is all ways in which noisy is read for w, those that begin with an earlier part first.
func ways(l []api.Rule, noisy, w string) [][]api.Rule {
	if noisy == "" && w == "" {
		return [][]api.Rule{nil}
	}
	var all [][]api.Rule
	for _, p := range firsts(l, noisy, w) {
		for _, more := range ways(l, noisy[len(p.From):], w[len(p.To):]) {
			all = append(all, append([]api.Rule{p}, more...))
		}
	}
	return all
}

// cost is what parts cost together.
func cost(l []api.Rule) int {
	n := 0
	for _, p := range l {
		n += p.Cost
	}
	return n
}

// first is the first one of the ways that cost least; both texts must be short.
func first(l []api.Rule, noisy, w string) []api.Rule {
	return slices.MinFunc(ways(l, noisy, w), func(a, b []api.Rule) int { return cost(a) - cost(b) })
}

// wantFirst says that all calls answer by all ways.
func wantFirst(t *testing.T, l []api.Rule, noisy, w string) {
	t.Helper()
	want := first(l, noisy, w)
	wantParts(t, l, noisy, w, want, api.OK)
	wantAll(t, l, noisy, w, cost(want))
}

// wantAll says that n is the price, for all calls.
func wantAll(t *testing.T, l []api.Rule, noisy, w string, n int) {
	t.Helper()
	wantPrice(t, l, noisy, w, n, api.OK)
	for _, budget := range budgets(n) {
		switch {
		case budget < 0 || budget > api.MaxBudget:
			wantWithin(t, l, noisy, w, budget, 0, api.ErrArg)
		case budget < n:
			wantWithin(t, l, noisy, w, budget, 0, api.ErrNone)
		default:
			wantWithin(t, l, noisy, w, budget, n, api.OK)
		}
	}
	p, err := price.Parts(l, noisy, w)
	if err != api.OK {
		t.Errorf("Parts(%v, %.90q, %.90q) = %v", show(l), noisy, w, err)
	}
	wantSum(t, p, noisy, w, n)
	if t.Failed() {
		t.FailNow()
	}
}

// places is at which bytes runes of s begin, and where s ends.
func places(s string) []int {
	var some []int
	for i := range s {
		some = append(some, i)
	}
	return append(some, len(s))
}

// least is the price by going from the beginnings on: what each two beginnings cost is told on to those behind them.
func least(l []api.Rule, noisy, w string) int {
	costs := map[[2]int]int{{0, 0}: 0}
	for _, i := range places(noisy) {
		for _, j := range places(w) {
			for _, p := range firsts(l, noisy[i:], w[j:]) {
				to := [2]int{i + len(p.From), j + len(p.To)}
				n := costs[[2]int{i, j}] + p.Cost
				if known, found := costs[to]; !found || n < known {
					costs[to] = n
				}
			}
		}
	}
	return costs[[2]int{len(noisy), len(w)}]
}

// P12.1, P12.2: what the document tells.
func TestExample(t *testing.T) {
	l := []api.Rule{of("rn", "m", 7)}
	wantAll(t, l, "arn", "am", 7)
	wantParts(t, l, "arn", "am", []api.Rule{of("a", "a", 0), l[0]}, api.OK)
	wantAll(t, nil, "arn", "am", 510)
	wantParts(t, nil, "arn", "am", []api.Rule{of("a", "a", 0), of("r", "m", api.MaxCost), of("n", "", api.MaxCost)}, api.OK)
}

// P12.1
func TestPrice(t *testing.T) {
	l := normal(t, of("", "h", 40), of("c", "", 30), of("rn", "m", 7), of("m", "rn", 9), of("ri", "n", 5), of("ii", "u", 3), of("u", "ii", 200), of("cl", "d", 12), of("abc", "xyz", 20), of("ab", "xy", 15), of("\u00e4", "ae", 11), of("\u017f", "s", 2))
	for _, x := range []struct {
		noisy, w string
		want     int
	}{
		{"a", "a", 0}, {"am", "am", 0}, {"a", "b", 255}, {"a", "ab", 255}, {"ab", "a", 255}, {"x", "yz", 510},
		{"rn", "m", 7}, {"m", "rn", 9}, {"rnrn", "mm", 14}, {"rnm", "mrn", 16}, {"brnb", "bmb", 7},
		{"a", "ah", 40}, {"a", "hah", 80}, {"a", "hhh", 80 + 255}, {"ca", "a", 30}, {"cac", "a", 60}, {"c", "h", 70},
		{"cl", "d", 12}, {"cll", "dl", 12}, {"ccl", "d", 42},
		// Two rules that overlap in the token are not both parts.
		{"rni", "mi", 7}, {"rrin", "rnn", 5}, {"rin", "nn", 5}, {"iii", "uu", 258}, {"iiii", "uu", 6}, {"uu", "iiii", 400},
		// The longer one costs less than the shorter one and a change.
		{"abc", "xyz", 20}, {"abc", "xyc", 15}, {"abcc", "xyz", 50}, {"aab", "axy", 15},
		// A rule goes one way, and counts for all of its runes.
		{"xyz", "abc", 3 * 255}, {"n", "ri", 510}, {"d", "cl", 510}, {"h", "a", 255}, {"hx", "x", 255},
		{"m\u00e4\u017fch", "maesch", 13}, {"\u017f", "\u00e4", 255}, {"\U0001f600", "\u00e4", 255}, {"\u00e4", "\u00e5", 255},
	} {
		wantAll(t, l, x.noisy, x.w, x.want)
	}
	// A rule may cost as much as a change, but no more.
	l = []api.Rule{of("a", "b", 254), of("c", "d", 255)}
	wantAll(t, l, "a", "b", 254)
	wantAll(t, l, "c", "d", 255)
	wantAll(t, l, "ac", "bd", 509)
}

// P12.1: the budget is held against its bounds behind what may not be, and ahead of the price.
func TestWithin(t *testing.T) {
	l := []api.Rule{of("rn", "m", 7)}
	for budget, want := range map[int]api.Errno{
		math.MinInt: api.ErrArg, -8: api.ErrArg, -1: api.ErrArg, 0: api.ErrNone, 6: api.ErrNone, 7: api.OK, 8: api.OK, 4095: api.OK, 4096: api.OK, 4097: api.ErrArg, math.MaxInt: api.ErrArg,
	} {
		n := 0
		if want == api.OK {
			n = 7
		}
		wantWithin(t, l, "arn", "am", budget, n, want)
	}
	wantWithin(t, l, "am", "am", 0, 0, api.OK)
	wantWithin(t, l, "am", "am", -1, 0, api.ErrArg)
	// A price may be greater than each budget.
	dear := []api.Rule{of("ab", "c", 16)}
	noisy, w := strings.Repeat("x", 16)+"ab", strings.Repeat("y", 16)+"c"
	wantWithin(t, dear, noisy, w, 4096, 4096, api.OK)
	wantWithin(t, dear, noisy, w, 4095, 0, api.ErrNone)
	wantWithin(t, dear, noisy+"x", w, 4096, 0, api.ErrNone)
	wantWithin(t, nil, strings.Repeat("a", 64), strings.Repeat("b", 64), 4096, 0, api.ErrNone)
	wantWithin(t, nil, strings.Repeat("a", 64), strings.Repeat("b", 64), 4097, 0, api.ErrArg)
}

// P12.2: which of the parts that are as good are told.
func TestParts(t *testing.T) {
	for _, x := range []struct {
		l        []api.Rule
		noisy, w string
		want     []api.Rule
	}{
		// The match ahead of all else, as soon as it may be.
		{nil, "aa", "a", []api.Rule{of("a", "a", 0), of("a", "", 255)}},
		{nil, "a", "aa", []api.Rule{of("a", "a", 0), of("", "a", 255)}},
		{[]api.Rule{of("a", "", 1)}, "aaa", "a", []api.Rule{of("a", "a", 0), of("a", "", 1), of("a", "", 1)}},
		{[]api.Rule{of("", "a", 1)}, "a", "aaa", []api.Rule{of("a", "a", 0), of("", "a", 1), of("", "a", 1)}},
		{[]api.Rule{of("aa", "a", 1)}, "aaa", "aa", []api.Rule{of("a", "a", 0), of("aa", "a", 1)}},
		// But not if it costs more in the end.
		{[]api.Rule{of("ab", "ac", 7)}, "ab", "ac", []api.Rule{of("ab", "ac", 7)}},
		{[]api.Rule{of("a", "ab", 2), of("b", "c", 3)}, "ab", "abb", []api.Rule{of("a", "ab", 2), of("b", "b", 0)}},
		// One that costs as much as a match and another rule comes behind the match.
		{[]api.Rule{of("ab", "ac", 7), of("b", "c", 7)}, "ab", "ac", []api.Rule{of("a", "a", 0), of("b", "c", 7)}},
		// Rules as they stand: the lesser From first, then the lesser To, whatever each one costs.
		{[]api.Rule{of("a", "b", 10), of("ac", "bd", 20), of("c", "d", 10)}, "ac", "bd", []api.Rule{of("a", "b", 10), of("c", "d", 10)}},
		{[]api.Rule{of("", "b", 9), of("a", "", 1), of("a", "b", 10)}, "a", "b", []api.Rule{of("", "b", 9), of("a", "", 1)}},
		{[]api.Rule{of("a", "", 1), of("a", "b", 10), of("ac", "b", 10), of("c", "", 9), of("c", "b", 9)}, "ac", "b", []api.Rule{of("a", "", 1), of("c", "b", 9)}},
		{[]api.Rule{of("a", "x", 5), of("a", "xy", 8), of("b", "", 4), of("b", "y", 7)}, "ab", "xy", []api.Rule{of("a", "x", 5), of("b", "y", 7)}},
		{[]api.Rule{of("a", "", 6), of("a", "x", 5), of("b", "xy", 6), of("b", "y", 7)}, "ab", "xy", []api.Rule{of("a", "", 6), of("b", "xy", 6)}},
		{[]api.Rule{of("a", "xyz", 4), of("ab", "x", 2), of("b", "", 2), of("c", "", 255), of("c", "yz", 4)}, "abc", "xyz", []api.Rule{of("ab", "x", 2), of("c", "yz", 4)}},
		// Of changes one rune for another first, then one for nothing, then nothing for one.
		{nil, "ab", "c", []api.Rule{of("a", "c", 255), of("b", "", 255)}},
		{nil, "a", "bc", []api.Rule{of("a", "b", 255), of("", "c", 255)}},
		{nil, "ab", "cd", []api.Rule{of("a", "c", 255), of("b", "d", 255)}},
		{nil, "ab", "b", []api.Rule{of("a", "", 255), of("b", "b", 0)}},
		{nil, "b", "ab", []api.Rule{of("", "a", 255), of("b", "b", 0)}},
		{nil, "ab", "ba", []api.Rule{of("a", "b", 255), of("b", "a", 255)}},
		{nil, "abx", "bay", []api.Rule{of("a", "b", 255), of("b", "a", 255), of("x", "y", 255)}},
		{nil, "abcb", "bcab", []api.Rule{of("a", "", 255), of("b", "b", 0), of("c", "c", 0), of("", "a", 255), of("b", "b", 0)}},
		// A rule that costs as much as a change comes ahead of it.
		{[]api.Rule{of("a", "", 255)}, "ab", "c", []api.Rule{of("a", "", 255), of("b", "c", 255)}},
		{[]api.Rule{of("", "b", 255)}, "a", "bc", []api.Rule{of("", "b", 255), of("a", "c", 255)}},
		{[]api.Rule{of("b", "", 255)}, "ab", "c", []api.Rule{of("a", "c", 255), of("b", "", 255)}},
		{[]api.Rule{of("ab", "", 255)}, "abc", "dc", []api.Rule{of("ab", "", 255), of("", "d", 255), of("c", "c", 0)}},
		// Runes are parts, not bytes.
		{nil, "\u00e4", "\u00e5", []api.Rule{of("\u00e4", "\u00e5", 255)}},
		{nil, "\U0001f600\u00e4", "\u00e4", []api.Rule{of("\U0001f600", "", 255), of("\u00e4", "\u00e4", 0)}},
		{[]api.Rule{of("\u00e4", "ae", 3)}, "m\u00e4", "mae", []api.Rule{of("m", "m", 0), of("\u00e4", "ae", 3)}},
	} {
		if rule.Is(x.l) != api.OK {
			t.Fatal(x.l)
		}
		wantParts(t, x.l, x.noisy, x.w, x.want, api.OK)
		wantFirst(t, x.l, x.noisy, x.w)
	}
}

// P12.2
func TestSum(t *testing.T) {
	wantSum(t, nil, "", "", 0)
	wantSum(t, []api.Rule{of("rn", "m", 7)}, "rn", "m", 7)
	wantSum(t, []api.Rule{of("a", "a", 0), of("rn", "m", 7), of("", "x", 255), of("y", "", 255)}, "arny", "amx", 517)
	// Whatever stands there: sides that are no texts, or long, or the same; costs that may not be.
	wantSum(t, []api.Rule{of("\xff", "\xc3", 1), of("\x80", "\xa4", 2), of("abcd", "abcd", 300)}, "\xff\x80abcd", "\u00e4abcd", 303)
	long := strings.Repeat("ab", 1<<16)
	wantSum(t, []api.Rule{of(long, "", 1), of("c", long, 1), of("", "d", 1)}, long+"c", long+"d", 3)
	// A cost below 0 counts as 0, and takes nothing off.
	wantSum(t, []api.Rule{of("a", "", -5), of("", "b", 7), of("", "", math.MinInt)}, "a", "b", 7)
	wantSum(t, []api.Rule{of("", "", -1), of("", "", -1)}, "", "", 0)
	const most = 1 << 40
	for _, x := range []struct {
		costs []int
		want  int
	}{
		{[]int{most - 1}, most - 1}, {[]int{most}, most}, {[]int{most + 1}, most}, {[]int{math.MaxInt}, most},
		{[]int{most - 1, 1}, most}, {[]int{most - 2, 1}, most - 1}, {[]int{most - 1, 2}, most}, {[]int{most, most}, most},
		{[]int{1, math.MaxInt}, most}, {[]int{math.MaxInt, 1}, most}, {[]int{math.MaxInt, math.MaxInt, math.MaxInt, 5}, most},
		{[]int{math.MaxInt, math.MinInt}, most}, {[]int{math.MinInt, math.MinInt, 3}, 3}, {[]int{most, -1}, most},
		{[]int{1 << 39, 1 << 39}, most}, {[]int{1 << 39, 1<<39 - 1}, most - 1}, {[]int{1 << 62, 1 << 62, 1 << 62, 1 << 62}, most},
		{[]int{api.MaxCost, api.MaxCost + 1}, 511},
	} {
		var l []api.Rule
		for _, n := range x.costs {
			l = append(l, of("a", "b", n))
		}
		wantSum(t, l, strings.Repeat("a", len(l)), strings.Repeat("b", len(l)), x.want)
	}
}

// P1, P12.1, P12.2: rules that are not normal first, then the token, then the word, then the budget.
func TestErrors(t *testing.T) {
	noText, none, long := "\xff", "", strings.Repeat("a", api.MaxToken+1)
	good := []api.Rule{of("m", "rn", 9), of("rn", "m", 7)}
	for _, x := range []struct {
		l   []api.Rule
		err api.Errno
	}{
		{[]api.Rule{good[1], good[0]}, api.ErrForm}, {[]api.Rule{good[0], good[0]}, api.ErrForm}, {[]api.Rule{good[0], of("m", "rn", 10)}, api.ErrForm},
		{[]api.Rule{of("a", "a", 1)}, api.ErrForm}, {[]api.Rule{of("", "", 1)}, api.ErrForm}, {[]api.Rule{of("a", "b", 0)}, api.ErrArg}, {[]api.Rule{of("a", "b", api.MaxCost+1)}, api.ErrArg},
		{[]api.Rule{of("abcd", "b", 1)}, api.ErrLong}, {[]api.Rule{of("a", "\xff", 1)}, api.ErrUTF}, {[]api.Rule{good[1], good[0], of("a", "\xff", 1)}, api.ErrUTF},
		{many(api.MaxRules + 1), api.ErrMany},
	} {
		for _, s := range []string{"a", none, noText, long} {
			wantError(t, x.l, s, "a", x.err)
			wantError(t, x.l, "a", s, x.err)
			wantError(t, x.l, s, s, x.err)
		}
	}
	wrong := map[string]api.Errno{
		none: api.ErrEmpty, noText: api.ErrUTF, long: api.ErrLong, long + "\xff": api.ErrUTF, "rn\xc3": api.ErrUTF, "\xc0\x80": api.ErrUTF, "\xed\xa0\x80": api.ErrUTF,
		strings.Repeat("\u00e4", api.MaxToken+1): api.ErrLong, strings.Repeat("\xff", 100000): api.ErrUTF, strings.Repeat("a", 100000): api.ErrLong,
	}
	for _, l := range [][]api.Rule{nil, {}, good} {
		for s, err := range wrong {
			wantError(t, l, s, "a", err)
			wantError(t, l, "a", s, err)
			for w := range wrong {
				wantError(t, l, s, w, err)
			}
		}
	}
	// As many runes as there may be, and as many rules.
	for _, r := range []string{"a", "\u00e4", "\ufffd", "\U0010ffff"} {
		s := strings.Repeat(r, api.MaxToken)
		wantAll(t, good, s, s, 0)
		wantAll(t, good, "b", s, api.MaxToken*api.MaxCost)
		wantAll(t, good, s, "b", api.MaxToken*api.MaxCost)
	}
	wantAll(t, many(api.MaxRules), "a", "a", 0)
}

// many is n rules, normal but for their number.
func many(n int) []api.Rule {
	l := make([]api.Rule, n)
	for i := range l {
		l[i] = of("b", string([]rune{0x4000 + rune(i)}), 1+i%api.MaxCost)
	}
	return l
}

// texts is all of up to long runes of these.
func texts(letters string, long int) []string {
	some := []string{""}
	for from := 0; long > 0; long-- {
		to := len(some)
		for _, s := range some[from:to] {
			for _, r := range letters {
				some = append(some, s+string(r))
			}
		}
		from = to
	}
	return some
}

// P12.1, P12.2: all short tokens and words, with each set of some rules whose costs are often as much as others together.
func TestSmall(t *testing.T) {
	all := normal(t, of("", "a", 2), of("a", "", 3), of("a", "b", 5), of("ab", "b", 3), of("b", "ab", 2), of("b", "a", 255))
	some := texts("ab", 3)[1:]
	for set := range 1 << len(all) {
		var l []api.Rule
		for i, r := range all {
			if set&(1<<i) != 0 {
				l = append(l, r)
			}
		}
		for _, s := range some {
			for _, w := range some {
				want := first(l, s, w)
				wantParts(t, l, s, w, want, api.OK)
				wantPrice(t, l, s, w, cost(want), api.OK)
			}
		}
	}
}

// letters are of one to four bytes, and two of them share bytes.
var letters = []rune{'a', 'b', 'm', 0xE4, 0x1F600, 0x1F601}

// randomText is of at least so many runes, up to long, of few kinds.
func randomText(r *rand.Rand, least, long int) string {
	kinds := 1 + r.Intn(len(letters))
	l := make([]rune, least+r.Intn(long-least+1))
	for i := range l {
		l[i] = letters[r.Intn(kinds)]
	}
	return string(l)
}

// randomRules is normal ones, whose costs are few, so that many ways cost as much, or any.
func randomRules(t *testing.T, r *rand.Rand, n int) []api.Rule {
	t.Helper()
	most := []int{1, 3, api.MaxCost}[r.Intn(3)]
	var some []api.Rule
	for range n {
		x := of(randomText(r, 0, api.MaxSide), randomText(r, 0, api.MaxSide), 1+r.Intn(most))
		if x.From != x.To {
			some = append(some, x)
		}
	}
	return normal(t, some...)
}

// P12.1 to P12.3: random rules, tokens and words.
func TestRandom(t *testing.T) {
	r := rand.New(rand.NewSource(12))
	for range 1500 {
		l := randomRules(t, r, r.Intn(30))
		noisy, w := randomText(r, 1, 4), randomText(r, 1, 4)
		wantFirst(t, l, noisy, w)
		wantAlike(t, l, noisy, w)
	}
	for range 40 {
		l := randomRules(t, r, r.Intn(30))
		noisy, w := randomText(r, 1, api.MaxToken), randomText(r, 1, api.MaxToken)
		wantAll(t, l, noisy, w, least(l, noisy, w))
		wantAlike(t, l, noisy, w)
	}
}

// wantAlike says what holds of prices: nothing but itself costs 0; with fewer rules none costs less; a piece ahead of both costs no more.
func wantAlike(t *testing.T, l []api.Rule, noisy, w string) {
	t.Helper()
	wantAll(t, l, noisy, noisy, 0)
	wantAll(t, l, w, w, 0)
	n, err := price.Price(l, noisy, w)
	if err != api.OK || (n == 0) != (noisy == w) || n > api.MaxCost*max(utf8.RuneCountInString(noisy), utf8.RuneCountInString(w)) {
		t.Fatalf("Price(%v, %q, %q) = %v, %v", show(l), noisy, w, n, err)
	}
	for i := range l {
		fewer := slices.Delete(slices.Clone(l), i, i+1)
		if more, err := price.Price(fewer, noisy, w); more < n || err != api.OK {
			t.Fatalf("Price(%v, %q, %q) = %v, %v; with %v %v", show(fewer), noisy, w, more, err, l[i], n)
		}
	}
	if utf8.RuneCountInString(noisy) < api.MaxToken && utf8.RuneCountInString(w) < api.MaxToken {
		if more, err := price.Price(l, "x"+noisy, "x"+w); more > n || err != api.OK {
			t.Fatalf("Price(%v, x%q, x%q) = %v, %v; without x %v", show(l), noisy, w, more, err, n)
		}
	}
}

// P1, P12.1, P12.2: as many rules as there may be, at long tokens, where as many hit as can.
func TestMost(t *testing.T) {
	var ins, outs, both []api.Rule
	for _, s := range texts("abcdefghijklmno", 3)[1:] {
		ins = append(ins, of("", s, 1+len(ins)%api.MaxCost))
		outs = append(outs, of(s, "", 1+len(outs)%api.MaxCost))
	}
	short := texts("abcdefg", 2)
	for _, s := range short {
		for _, w := range short {
			if s != w {
				both = append(both, of(s, w, 1+len(both)%api.MaxCost))
			}
		}
	}
	r := rand.New(rand.NewSource(64))
	for _, l := range [][]api.Rule{normal(t, ins...), normal(t, outs...), normal(t, both...), many(api.MaxRules)} {
		for range 3 {
			noisy, w := make([]byte, api.MaxToken), make([]byte, api.MaxToken)
			for i := range noisy {
				noisy[i], w[i] = "abcdefg"[r.Intn(7)], "abcdefg"[r.Intn(7)]
			}
			wantAll(t, l, string(noisy), string(w), least(l, string(noisy), string(w)))
		}
	}
}

// Rule 4: what is handed in is left as it is, its spare room too.
func TestArgumentsAreKept(t *testing.T) {
	spare := []api.Rule{of("m", "rn", 9), of("rn", "m", 7), of("z", "z", -1)}
	l := slices.Clone(spare)[:2]
	wantAll(t, l, "arn", "am", 7)
	wantParts(t, l, "arn", "am", []api.Rule{of("a", "a", 0), of("rn", "m", 7)}, api.OK)
	wantSum(t, l, "mrn", "rnm", 16)
	wantError(t, l, "", "a", api.ErrEmpty)
	if !slices.Equal(l[:3], spare) {
		t.Error(l[:3])
	}
}

// Rule 4: an answer is new memory, its spare room too.
func TestAnswersAreNew(t *testing.T) {
	l := []api.Rule{of("m", "rn", 9), of("rn", "m", 7)}
	for _, s := range []string{"am", "arn", "m", "rn"} {
		p, _ := price.Parts(l, "arn", s)
		other, _ := price.Parts(l, "arn", s)
		want := slices.Clone(other)
		clear(p[:cap(p)])
		if !slices.Equal(other, want) {
			t.Error(other)
		}
		wantParts(t, l, "arn", s, want, api.OK)
	}
	if l[0] != of("m", "rn", 9) || l[1] != of("rn", "m", 7) {
		t.Error(l)
	}
}

// P1, P12.1 to P12.3: whatever is given, a call answers, and by the chapter's words.
func FuzzPrice(f *testing.F) {
	f.Add("rn", "m", 7, "m", "rn", 9, "arn", "am", 300)
	f.Add("", "a", 2, "a", "", 2, "ab", "ba", 4)
	f.Add("ab", "b", 255, "b", "ab", 1, "\u00e4b", "b\U0001f600", -1)
	f.Add("a", "a", 0, "abcd", "\xff", 256, "a\xff", "", 4097)
	f.Add("", "", 1, "a", "b", 1, strings.Repeat("a", 65), strings.Repeat("b", 64), 4096)
	f.Fuzz(func(t *testing.T, a, b string, m int, c, d string, n int, noisy, w string, budget int) {
		some := []api.Rule{of(a, b, m), of(c, d, n)}
		wantSum(t, some, a+c, b+d, min(min(max(m, 0), 1<<40)+min(max(n, 0), 1<<40), 1<<40))
		l, err := rule.Normal(some)
		if err != api.OK {
			wantError(t, some, noisy, w, err)
			return
		}
		for _, s := range []string{noisy, w} {
			err := api.OK
			switch {
			case !utf8.ValidString(s):
				err = api.ErrUTF
			case s == "":
				err = api.ErrEmpty
			case utf8.RuneCountInString(s) > api.MaxToken:
				err = api.ErrLong
			}
			if err != api.OK {
				wantError(t, l, noisy, w, err)
				return
			}
		}
		want := least(l, noisy, w)
		wantAll(t, l, noisy, w, want)
		switch {
		case budget < 0 || budget > api.MaxBudget:
			wantWithin(t, l, noisy, w, budget, 0, api.ErrArg)
		case budget < want:
			wantWithin(t, l, noisy, w, budget, 0, api.ErrNone)
		default:
			wantWithin(t, l, noisy, w, budget, want, api.OK)
		}
		if utf8.RuneCountInString(noisy)+utf8.RuneCountInString(w) <= 9 {
			wantFirst(t, l, noisy, w)
		}
		wantAlike(t, l, noisy, w)
	})
}
