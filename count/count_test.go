package count_test

import (
	"fmt"
	"math"
	"math/rand"
	"slices"
	"strings"
	"testing"

	"errata/api"
	"errata/block"
	"errata/count"
)

func of(from, to string, n int) api.Block { return api.Block{From: from, To: to, N: n} }

// pairs is what was read and what should have been, in turn.
func pairs(s ...string) []api.Pair {
	var l []api.Pair
	for two := range slices.Chunk(s, 2) {
		l = append(l, api.Pair{Noisy: two[0], Truth: two[1]})
	}
	return l
}

// wrong are blocks that may not be, with why.
var wrong = []struct {
	b   api.Block
	err api.Errno
}{
	{of("\xff", "a", 1), api.ErrUTF},
	{of("a", "\xc0\x80", 0), api.ErrUTF},
	{of("abcd", "\xed\xa0\x80", 1), api.ErrUTF},
	{of("abcd", "", 1), api.ErrLong},
	{of("", "\u00e4\u00e4\u00e4\u00e4", -1), api.ErrLong},
	{of("abcd", "abcd", 1), api.ErrLong},
	{of("", "", 1), api.ErrForm},
	{of("ab", "ab", 0), api.ErrForm},
	{of("b", "", 0), api.ErrArg},
	{of("b", "", -1), api.ErrArg},
	{of("b", "", math.MinInt), api.ErrArg},
	{of("b", "", api.MaxCount+1), api.ErrArg},
	{of("b", "", math.MaxInt), api.ErrArg},
}

// distinct is n blocks in order, no two of one From and To.
func distinct(n int) []api.Block {
	l := make([]api.Block, n)
	for i := range l {
		l[i] = of(string([]rune{rune('A' + i/1024), rune(0x4000 + i%1024)}), "x", 1)
	}
	return l
}

func reversed(l []api.Block) []api.Block {
	l = slices.Clone(l)
	slices.Reverse(l)
	return l
}

// wantTable says that l is a table, of these counts.
func wantTable(t *testing.T, l []api.Block) {
	t.Helper()
	total, step := 0, 1+len(l)/20
	for i, b := range l {
		total += b.N
		// Each Find checks the whole table: of a great one some are enough.
		if i%step != 0 {
			continue
		}
		if n, err := count.Find(l, b.From, b.To); n != b.N || err != api.OK {
			t.Errorf("Find(%v) = %v, %v", b, n, err)
		}
	}
	if err := count.Check(l); err != api.OK {
		t.Errorf("Check(%.200v) = %v", fmt.Sprint(l), err)
	}
	if n, err := count.Total(l); n != total || err != api.OK {
		t.Errorf("Total(%.200v) = %v, %v; want %v", fmt.Sprint(l), n, err, total)
	}
}

// wantNone says that l is no table, and why: all that ask for one tell it.
func wantNone(t *testing.T, l []api.Block, want api.Errno) {
	t.Helper()
	text := fmt.Sprint(l)
	if err := count.Check(l); err != want {
		t.Errorf("Check(%.200v) = %v; want %v", text, err, want)
	}
	if n, err := count.Total(l); n != 0 || err != want {
		t.Errorf("Total(%.200v) = %v, %v; want %v", text, n, err, want)
	}
	if n, err := count.Find(l, "a", "b"); n != 0 || err != want {
		t.Errorf("Find(%.200v) = %v, %v; want %v", text, n, err, want)
	}
	wantNoMerge(t, l, nil, want)
	wantNoMerge(t, nil, l, want)
}

func wantFind(t *testing.T, l []api.Block, from, to string, want int) {
	t.Helper()
	if n, err := count.Find(l, from, to); n != want || err != api.OK {
		t.Errorf("Find(%v, %q, %q) = %v, %v; want %v", l, from, to, n, err, want)
	}
}

func wantOf(t *testing.T, l, want []api.Block) {
	t.Helper()
	if got, err := count.Table(l); !slices.Equal(got, want) || err != api.OK {
		t.Errorf("Table(%.200v) = %.200v, %v; want %.200v", fmt.Sprint(l), fmt.Sprint(got), err, fmt.Sprint(want))
	}
	wantTable(t, want)
}

func wantNoTable(t *testing.T, l []api.Block, want api.Errno) {
	t.Helper()
	if got, err := count.Table(l); len(got) != 0 || err != want {
		t.Errorf("Table(%.200v) = %.200v, %v; want %v", fmt.Sprint(l), fmt.Sprint(got), err, want)
	}
}

// wantMerge is for tables either way round: they are one both ways.
func wantMerge(t *testing.T, a, b, want []api.Block) {
	t.Helper()
	for range 2 {
		if got, err := count.Merge(a, b); !slices.Equal(got, want) || err != api.OK {
			t.Errorf("Merge(%.200v, %.200v) = %.200v, %v; want %.200v", fmt.Sprint(a), fmt.Sprint(b), fmt.Sprint(got), err, fmt.Sprint(want))
		}
		a, b = b, a
	}
	wantTable(t, want)
}

func wantNoMerge(t *testing.T, a, b []api.Block, want api.Errno) {
	t.Helper()
	if got, err := count.Merge(a, b); len(got) != 0 || err != want {
		t.Errorf("Merge(%.200v, %.200v) = %.200v, %v; want %v", fmt.Sprint(a), fmt.Sprint(b), fmt.Sprint(got), err, want)
	}
}

func wantPairs(t *testing.T, l []api.Pair, want []api.Block) {
	t.Helper()
	if got, err := count.Pairs(l); !slices.Equal(got, want) || err != api.OK {
		t.Errorf("Pairs(%.200v) = %.200v, %v; want %.200v", fmt.Sprint(l), fmt.Sprint(got), err, fmt.Sprint(want))
	}
	wantTable(t, want)
}

func wantNoPairs(t *testing.T, l []api.Pair, want api.Errno) {
	t.Helper()
	if got, err := count.Pairs(l); len(got) != 0 || err != want {
		t.Errorf("Pairs(%.200v) = %.200v, %v; want %v", fmt.Sprint(l), fmt.Sprint(got), err, want)
	}
}

// P6.1: tables, nothing among them, with all blocks that stand close to each other.
func TestTables(t *testing.T) {
	wantTable(t, nil)
	wantTable(t, []api.Block{})
	wantTable(t, []api.Block{of("rn", "m", 1)})
	wantTable(t, []api.Block{of("l", "i", 1), of("rn", "m", 2)})
	wantTable(t, []api.Block{
		of("", "\x00", 1), of("", "a", 2), of("", "aa", 3), of("\x00", "", 4),
		of("Z", "a", 5), of("a", "", 6), of("a", "Z", 7), of("a", "aa", 8), of("a", "b", 9), of("a\x00", "", 10), of("aa", "a", 11), of("b", "a", 12),
		of("\u00e4", "ae", 13), of("\uffff", "", 14), of("\U00010000", "", 15),
	})
}

// P6.1: what is there is found by both its sides, whatever is asked for.
func TestFind(t *testing.T) {
	l := []api.Block{of("", "b", 3), of("a", "", 4), of("a", "b", 5), of("l", "i", 1), of("rn", "m", 2)}
	for _, b := range l {
		wantFind(t, l, b.From, b.To, b.N)
		wantFind(t, l, b.To, b.From, 0)
		wantFind(t, nil, b.From, b.To, 0)
	}
	for _, s := range []string{"", "\x00", "a", "b", "i", "l", "m", "rn", "rnm", "z", "\xff", "\xc0\x80", strings.Repeat("a", 100000)} {
		wantFind(t, l, s, s, 0)
		wantFind(t, l, s, "c", 0)
		wantFind(t, l, "c", s, 0)
		wantFind(t, l, s, "\xff", 0)
		wantFind(t, nil, s, s, 0)
	}
	wantFind(t, l, "r", "nm", 0)
	wantFind(t, l, "rnm", "", 0)
}

// P6.1: each of many is found, and nothing between them.
func TestFindAmongMany(t *testing.T) {
	l := distinct(300)
	for i := range l {
		l[i].N = i + 1
	}
	for _, b := range l {
		wantFind(t, l, b.From, b.To, b.N)
		wantFind(t, l, b.From, "w", 0)
		wantFind(t, l, b.From, "y", 0)
		wantFind(t, l, b.From+"a", b.To, 0)
	}
}

// P6.1: in order, no two of one From and To, whatever their Ns.
func TestOrder(t *testing.T) {
	inOrder := []api.Block{of("", "b", 1), of("a", "", 2), of("a", "b", 3), of("a", "c", 4), of("aa", "b", 5), of("b", "", 6), of("\u00e4", "b", 7)}
	for i, a := range inOrder {
		for j, b := range inOrder {
			if i < j {
				wantTable(t, []api.Block{a, b})
				continue
			}
			b.N += i
			wantNone(t, []api.Block{a, b}, api.ErrForm)
		}
	}
	for i := range len(inOrder) - 1 {
		l := slices.Clone(inOrder)
		l[i], l[i+1] = l[i+1], l[i]
		wantNone(t, l, api.ErrForm)
		wantNone(t, slices.Insert(slices.Clone(inOrder), i, inOrder[i]), api.ErrForm)
		wantNone(t, append(slices.Clone(inOrder), inOrder[i]), api.ErrForm)
	}
}

// P6.1: a block that may not be is told of, wherever it stands, ahead of all else.
func TestWrongBlocks(t *testing.T) {
	l := []api.Block{of("", "b", 1), of("a", "b", 3), of("l", "i", 1)}
	for _, x := range wrong {
		wantNone(t, []api.Block{x.b}, x.err)
		for i := range len(l) + 1 {
			wantNone(t, slices.Insert(slices.Clone(l), i, x.b), x.err)
			wantNone(t, slices.Insert(reversed(l), i, x.b), x.err)
		}
		wantNone(t, []api.Block{of("a", "", api.MaxCount), of("b", "", api.MaxCount), x.b}, x.err)
		wantNone(t, append(distinct(api.MaxRules+1), x.b), x.err)
		for _, y := range wrong {
			wantNone(t, []api.Block{x.b, y.b}, x.err)
			wantNone(t, []api.Block{l[2], x.b, l[1], y.b}, x.err)
		}
	}
}

// P6.1: as many as may be, and one more; the order is told of first.
func TestTooManyBlocks(t *testing.T) {
	l := distinct(api.MaxRules + 1)
	wantTable(t, l[:api.MaxRules-1])
	wantTable(t, l[:api.MaxRules])
	wantNone(t, l, api.ErrMany)
	wantNone(t, distinct(3*api.MaxRules), api.ErrMany)
	l[api.MaxRules].From = l[0].From
	wantNone(t, l, api.ErrForm)
	wantNone(t, reversed(distinct(api.MaxRules+1)), api.ErrForm)
}

// P6.1: as often as may be, and once more; the order is told of first.
func TestTooGreatTotals(t *testing.T) {
	wantTable(t, []api.Block{of("a", "", api.MaxCount)})
	wantTable(t, []api.Block{of("a", "", api.MaxCount-1), of("b", "", 1)})
	wantTable(t, []api.Block{of("a", "", 1), of("b", "", api.MaxCount-1)})
	wantTable(t, []api.Block{of("a", "", api.MaxCount/2), of("b", "", api.MaxCount/2)})
	wantNone(t, []api.Block{of("a", "", api.MaxCount), of("b", "", 1)}, api.ErrMany)
	wantNone(t, []api.Block{of("a", "", 1), of("b", "", api.MaxCount)}, api.ErrMany)
	wantNone(t, []api.Block{of("a", "", api.MaxCount/2), of("b", "", api.MaxCount/2), of("c", "", 1)}, api.ErrMany)
	wantNone(t, []api.Block{of("b", "", 1), of("a", "", api.MaxCount)}, api.ErrForm)
	wantNone(t, []api.Block{of("a", "", api.MaxCount), of("a", "", 1)}, api.ErrForm)
	// Together these are a multiple of what an int of 32 bits wraps round at.
	l := distinct(api.MaxRules)
	for i := range l {
		l[i].N = api.MaxCount
	}
	for _, n := range []int{2, 3, 4, 5, 8, api.MaxRules} {
		wantNone(t, l[:n], api.ErrMany)
	}
}

// P6.2: the table of blocks, those of one From and To as one.
func TestTable(t *testing.T) {
	wantOf(t, nil, nil)
	wantOf(t, []api.Block{}, nil)
	wantOf(t, []api.Block{of("rn", "m", 1), of("l", "i", 1), of("rn", "m", 1)}, []api.Block{of("l", "i", 1), of("rn", "m", 2)})
	wantOf(t, []api.Block{of("a", "b", 3), of("b", "a", 4), of("a", "b", 5), of("a", "", 1), of("", "a", 2)}, []api.Block{of("", "a", 2), of("a", "", 1), of("a", "b", 8), of("b", "a", 4)})
	// The sides are told apart by more than by what they are together.
	wantOf(t, []api.Block{of("ab", "", 1), of("a", "b", 2), of("", "ab", 4)}, []api.Block{of("", "ab", 4), of("a", "b", 2), of("ab", "", 1)})
	wantOf(t, []api.Block{of("a\x00", "b", 1), of("a", "\x00b", 2)}, []api.Block{of("a", "\x00b", 2), of("a\x00", "b", 1)})
	// Bytes hold, not runes, and not the length.
	wantOf(t, []api.Block{of("\U00010000", "", 1), of("\uffff", "", 1), of("z", "", 1), of("aaa", "", 1)}, []api.Block{of("aaa", "", 1), of("z", "", 1), of("\uffff", "", 1), of("\U00010000", "", 1)})
}

// P6.2: a block that may not be is told of, wherever it stands, ahead of there being too many.
func TestTableOfWrongBlocks(t *testing.T) {
	l := []api.Block{of("l", "i", 1), of("a", "b", 3), of("l", "i", 1)}
	for _, x := range wrong {
		wantNoTable(t, []api.Block{x.b}, x.err)
		for i := range len(l) + 1 {
			wantNoTable(t, slices.Insert(slices.Clone(l), i, x.b), x.err)
		}
		wantNoTable(t, []api.Block{of("a", "", api.MaxCount), of("b", "", 1), x.b}, x.err)
		wantNoTable(t, []api.Block{of("a", "", api.MaxCount), of("a", "", 1), x.b}, x.err)
		wantNoTable(t, append(distinct(api.MaxRules+1), x.b), x.err)
		for _, y := range wrong {
			wantNoTable(t, []api.Block{l[0], x.b, y.b}, x.err)
		}
	}
}

// P6.2: the table's blocks are counted, not those that it is made of.
func TestTableOfMany(t *testing.T) {
	all := distinct(api.MaxRules + 1)
	most := all[:api.MaxRules]
	wantOf(t, most, most)
	wantOf(t, reversed(most), most)
	twice := slices.Clone(most)
	for i := range twice {
		twice[i].N = 2
	}
	wantOf(t, append(reversed(most), most...), twice)
	wantOf(t, slices.Repeat([]api.Block{of("rn", "m", 3)}, 100000), []api.Block{of("rn", "m", 300000)})
	wantNoTable(t, all, api.ErrMany)
	wantNoTable(t, reversed(all), api.ErrMany)
	wantNoTable(t, append(reversed(all), all...), api.ErrMany)
	wantNoTable(t, distinct(10*api.MaxRules), api.ErrMany)
	wantNoTable(t, append(slices.Clone(all), most...), api.ErrMany)
}

// P6.2: the Ns of all blocks together, of one From and To or of several.
func TestTableOfGreatTotals(t *testing.T) {
	wantOf(t, []api.Block{of("a", "", api.MaxCount)}, []api.Block{of("a", "", api.MaxCount)})
	wantOf(t, []api.Block{of("a", "", 1), of("a", "", api.MaxCount-1)}, []api.Block{of("a", "", api.MaxCount)})
	wantOf(t, []api.Block{of("b", "", 1), of("a", "", api.MaxCount-1)}, []api.Block{of("a", "", api.MaxCount-1), of("b", "", 1)})
	wantNoTable(t, []api.Block{of("a", "", api.MaxCount), of("a", "", 1)}, api.ErrMany)
	wantNoTable(t, []api.Block{of("a", "", 1), of("a", "", api.MaxCount)}, api.ErrMany)
	wantNoTable(t, []api.Block{of("a", "", api.MaxCount), of("b", "", 1)}, api.ErrMany)
	wantNoTable(t, []api.Block{of("b", "", 1), of("a", "", api.MaxCount)}, api.ErrMany)
	wantNoTable(t, []api.Block{of("a", "", api.MaxCount/2), of("b", "", api.MaxCount/2), of("c", "", 1)}, api.ErrMany)
	wantNoTable(t, []api.Block{of("a", "", api.MaxCount/2), of("a", "", api.MaxCount/2), of("a", "", 1)}, api.ErrMany)
	wantNoTable(t, append(slices.Repeat([]api.Block{of("a", "", 1<<20)}, 1<<10), of("b", "", 1)), api.ErrMany)
	wantOf(t, slices.Repeat([]api.Block{of("a", "", 1<<20)}, 1<<10), []api.Block{of("a", "", api.MaxCount)})
	// One that would be too much is not left out: what fits behind it makes it no better.
	wantNoTable(t, []api.Block{of("a", "", 2), of("b", "", api.MaxCount-1), of("c", "", 1)}, api.ErrMany)
	for _, n := range []int{2, 3, 4, 5, 8, 4096, 1 << 17} {
		wantNoTable(t, slices.Repeat([]api.Block{of("a", "", api.MaxCount)}, n), api.ErrMany)
	}
}

// P6.2: the table of two tables.
func TestMerge(t *testing.T) {
	l := []api.Block{of("l", "i", 1), of("rn", "m", 2)}
	wantMerge(t, nil, nil, nil)
	wantMerge(t, []api.Block{}, nil, nil)
	wantMerge(t, l, nil, l)
	wantMerge(t, l, l, []api.Block{of("l", "i", 2), of("rn", "m", 4)})
	wantMerge(t, l, []api.Block{of("a", "b", 4), of("rn", "m", 5)}, []api.Block{of("a", "b", 4), of("l", "i", 1), of("rn", "m", 7)})
	wantMerge(t, l, []api.Block{of("l", "", 3), of("l", "j", 3), of("z", "", 9)}, []api.Block{of("l", "", 3), of("l", "i", 1), of("l", "j", 3), of("rn", "m", 2), of("z", "", 9)})
	wantMerge(t, l, []api.Block{of("a", "", 1), of("b", "", 1)}, []api.Block{of("a", "", 1), of("b", "", 1), of("l", "i", 1), of("rn", "m", 2)})
	wantMerge(t, l, []api.Block{of("i", "l", 3), of("m", "rn", 3)}, []api.Block{of("i", "l", 3), of("l", "i", 1), of("m", "rn", 3), of("rn", "m", 2)})
}

// P6.2: what is wrong with a is told of first, then what is wrong with b, then that there are too many.
func TestMergeOfNoTables(t *testing.T) {
	most := []api.Block{of("a", "", api.MaxCount)}
	noTables := []struct {
		l   []api.Block
		err api.Errno
	}{
		{[]api.Block{of("b", "", 1), of("a", "", 1)}, api.ErrForm},
		{[]api.Block{of("b", "", 1), of("b", "", 1)}, api.ErrForm},
		{[]api.Block{of("a", "", 1), of("b", "", api.MaxCount)}, api.ErrMany},
		{distinct(api.MaxRules + 1), api.ErrMany},
	}
	for _, x := range wrong {
		noTables = append(noTables, struct {
			l   []api.Block
			err api.Errno
		}{[]api.Block{of("a", "", 1), x.b}, x.err})
	}
	for _, x := range noTables {
		for _, l := range [][]api.Block{nil, most, {of("l", "i", 1)}, distinct(api.MaxRules)} {
			wantNoMerge(t, x.l, l, x.err)
			wantNoMerge(t, l, x.l, x.err)
		}
		for _, y := range noTables {
			wantNoMerge(t, x.l, y.l, x.err)
		}
	}
}

// P6.2: as many as may be, and one more, of blocks that are the same and that are not.
func TestMergeOfMany(t *testing.T) {
	all := distinct(api.MaxRules + 1)
	most := all[:api.MaxRules]
	wantMerge(t, most, nil, most)
	wantMerge(t, most[:1000], most[1000:], most)
	var even, odd []api.Block
	for i, b := range most {
		if i%2 == 0 {
			even = append(even, b)
		} else {
			odd = append(odd, b)
		}
	}
	wantMerge(t, even, odd, most)
	twice := slices.Clone(most)
	for i := range twice {
		twice[i].N = 2
	}
	wantMerge(t, most, most, twice)
	for _, i := range []int{0, 1, 2000, api.MaxRules - 1, api.MaxRules} {
		rest := slices.Delete(slices.Clone(all), i, i+1)
		wantNoMerge(t, rest, all[i:i+1], api.ErrMany)
		wantNoMerge(t, all[i:i+1], rest, api.ErrMany)
	}
	wantNoMerge(t, most, all[1:], api.ErrMany)
}

// P6.2: as often as may be, and once more.
func TestMergeOfGreatTotals(t *testing.T) {
	most, less := []api.Block{of("a", "", api.MaxCount)}, []api.Block{of("a", "", api.MaxCount-1)}
	wantMerge(t, most, nil, most)
	wantMerge(t, less, []api.Block{of("a", "", 1)}, most)
	wantMerge(t, less, []api.Block{of("b", "", 1)}, []api.Block{of("a", "", api.MaxCount-1), of("b", "", 1)})
	for _, b := range []api.Block{of("", "a", 1), of("a", "", 1), of("b", "", 1), of("b", "", api.MaxCount), of("a", "", api.MaxCount)} {
		wantNoMerge(t, most, []api.Block{b}, api.ErrMany)
		wantNoMerge(t, []api.Block{b}, most, api.ErrMany)
	}
	wantNoMerge(t, less, []api.Block{of("", "a", 1), of("b", "", 1)}, api.ErrMany)
}

// P6.2: the table of all blocks of pairs; those that are too long, and pairs of the same, add none.
func TestPairs(t *testing.T) {
	wantPairs(t, nil, nil)
	wantPairs(t, []api.Pair{}, nil)
	wantPairs(t, pairs("a", "a"), nil)
	wantPairs(t, pairs("wxyz", "abcd"), nil)
	wantPairs(t, pairs("arn", "am", "rnb", "mb", "lt", "it", "a", "a"), []api.Block{of("l", "i", 1), of("rn", "m", 2)})
	wantPairs(t, pairs("zaxazb", "yawayb", "z", "y", "r\u00e4t", "rat"), []api.Block{of("x", "w", 1), of("z", "y", 3), of("\u00e4", "a", 1)})
	wantPairs(t, pairs("ab", "b", "b", "ab", "abcde", "e", "ab", "b"), []api.Block{of("", "a", 1), of("a", "", 2)})
}

// P6.2: the first pair that has an error is told of, wherever it stands.
func TestWrongPairs(t *testing.T) {
	long := strings.Repeat("\u00e4", api.MaxToken+1)
	wrongPairs := []struct {
		p   api.Pair
		err api.Errno
	}{
		{api.Pair{}, api.ErrEmpty}, {api.Pair{Noisy: "a"}, api.ErrEmpty}, {api.Pair{Truth: "a"}, api.ErrEmpty},
		{api.Pair{Noisy: "a", Truth: "\xff"}, api.ErrUTF}, {api.Pair{Noisy: "\xc0\x80", Truth: ""}, api.ErrUTF},
		{api.Pair{Noisy: "a", Truth: long}, api.ErrLong}, {api.Pair{Noisy: long, Truth: "\xff"}, api.ErrLong},
	}
	l := pairs("arn", "am", "lt", "it", "a", "a")
	for _, x := range wrongPairs {
		wantNoPairs(t, []api.Pair{x.p}, x.err)
		for i := range len(l) + 1 {
			wantNoPairs(t, slices.Insert(slices.Clone(l), i, x.p), x.err)
		}
		for _, y := range wrongPairs {
			wantNoPairs(t, []api.Pair{l[0], x.p, y.p}, x.err)
		}
	}
}

// manyKinds is pairs of n blocks, each of them another one.
func manyKinds(n int) []api.Pair {
	l := make([]api.Pair, n)
	for i := range l {
		l[i] = api.Pair{Noisy: string(rune(0x4000 + i)), Truth: "x"}
	}
	return l
}

// P6.2: too many pairs are told of ahead of what is wrong with one of them, too many blocks behind that.
func TestTooManyPairs(t *testing.T) {
	same := slices.Repeat(pairs("rn", "m"), api.MaxPairs+1)
	wantPairs(t, same[:api.MaxPairs], []api.Block{of("rn", "m", api.MaxPairs)})
	wantNoPairs(t, same, api.ErrMany)
	wantNoPairs(t, make([]api.Pair, api.MaxPairs), api.ErrEmpty)
	wantNoPairs(t, make([]api.Pair, api.MaxPairs+1), api.ErrMany)
	wantNoPairs(t, slices.Repeat(pairs("a", "a"), api.MaxPairs+1), api.ErrMany)
	all := manyKinds(api.MaxRules + 1)
	if l, err := count.Pairs(all[1:]); len(l) != api.MaxRules || err != api.OK {
		t.Errorf("%v blocks, %v", len(l), err)
	}
	if l, err := count.Pairs(append(all[1:], all[1:]...)); len(l) != api.MaxRules || l[7].N != 2 || err != api.OK {
		t.Errorf("%v blocks, %v", len(l), err)
	}
	wantNoPairs(t, all, api.ErrMany)
	wantNoPairs(t, append(all, all...), api.ErrMany)
	wantNoPairs(t, manyKinds(3*api.MaxRules), api.ErrMany)
	wantNoPairs(t, append(manyKinds(3*api.MaxRules), api.Pair{Noisy: "\xff"}), api.ErrUTF)
}

// randomBlocks is blocks of few kinds, so that many are there several times.
func randomBlocks(r *rand.Rand, n int) []api.Block {
	some := []string{"", "\x00", "a", "b", "ab", "ba", "abc", "\u00e4", "\u20acx", "\U0001f600"}
	var l []api.Block
	for len(l) < n {
		b := of(some[r.Intn(len(some))], some[r.Intn(len(some))], 1+r.Intn(9))
		if b.From != b.To {
			l = append(l, b)
		}
	}
	return l
}

// laid is the table of blocks as a list that each of them is laid into.
func laid(l []api.Block) []api.Block {
	var table []api.Block
blocks:
	for _, b := range l {
		for i, x := range table {
			if x.From == b.From && x.To == b.To {
				table[i].N += b.N
				continue blocks
			}
			if b.From < x.From || b.From == x.From && b.To < x.To {
				table = slices.Insert(table, i, b)
				continue blocks
			}
		}
		table = append(table, b)
	}
	return table
}

// P6.3: blocks in any order have one table; merged, two tables are that of all.
func TestAnyOrder(t *testing.T) {
	r := rand.New(rand.NewSource(63))
	for range 1000 {
		l := randomBlocks(r, r.Intn(60))
		want := laid(l)
		wantOf(t, l, want)
		wantOf(t, reversed(l), want)
		r.Shuffle(len(l), func(i, j int) { l[i], l[j] = l[j], l[i] })
		wantOf(t, l, want)
		wantOf(t, want, want)
		at := r.Intn(len(l) + 1)
		a, errA := count.Table(l[:at])
		b, errB := count.Table(l[at:])
		if errA != api.OK || errB != api.OK {
			t.Fatal(l, errA, errB)
		}
		wantMerge(t, a, b, want)
	}
}

// P6.3: three tables are one, whichever two are merged first.
func TestMergeOfThree(t *testing.T) {
	r := rand.New(rand.NewSource(33))
	for range 300 {
		var tables [3][]api.Block
		var all []api.Block
		for i := range tables {
			l := randomBlocks(r, r.Intn(40))
			tables[i], all = laid(l), append(all, l...)
		}
		for i := range 3 {
			two, err := count.Merge(tables[i], tables[(i+1)%3])
			if err != api.OK {
				t.Fatal(tables, err)
			}
			wantMerge(t, two, tables[(i+2)%3], laid(all))
		}
	}
}

// P6.2, P6.3: pairs in any order have one table, that of their blocks; merged, those of two halves are it.
func TestPairsInAnyOrder(t *testing.T) {
	r := rand.New(rand.NewSource(62))
	letters := []rune{'a', 'b', 'c', 0xE4, 0x1F600}
	token := func() string {
		l := make([]rune, 1+r.Intn(9))
		for i := range l {
			l[i] = letters[r.Intn(len(letters))]
		}
		return string(l)
	}
	for range 300 {
		l := make([]api.Pair, r.Intn(40))
		var blocks []api.Block
		for i := range l {
			l[i] = api.Pair{Noisy: token(), Truth: token()}
			some, err := block.Pair(l[i].Noisy, l[i].Truth)
			if err != api.OK {
				t.Fatal(l[i], err)
			}
			blocks = append(blocks, some...)
		}
		want := laid(blocks)
		wantPairs(t, l, want)
		at := r.Intn(len(l) + 1)
		a, _ := count.Pairs(l[:at])
		b, _ := count.Pairs(l[at:])
		wantMerge(t, a, b, want)
		r.Shuffle(len(l), func(i, j int) { l[i], l[j] = l[j], l[i] })
		wantPairs(t, l, want)
	}
}

// Rule 4: what is handed in is not changed, its spare room included, and not kept.
func TestArgumentsAreKept(t *testing.T) {
	whole := []api.Block{of("l", "i", 1), of("rn", "m", 2), of("a", "b", 7), of("rn", "m", 9)}
	kept := slices.Clone(whole)
	other := []api.Block{of("rn", "m", 3), of("z", "", 4), of("q", "", 5)}
	keptOther := slices.Clone(other)
	some := pairs("rn", "m", "lt", "it", "x", "y")
	keptSome := slices.Clone(some)
	table, _ := count.Table(whole)
	merged, _ := count.Merge(whole[:2], other[:2])
	alone, _ := count.Merge(whole[:2], nil)
	behind, _ := count.Merge(nil, other[:2])
	ofPairs, _ := count.Pairs(some[:2])
	count.Total(whole[:2])
	count.Find(whole[:2], "a", "b")
	if !slices.Equal(whole, kept) || !slices.Equal(other, keptOther) || !slices.Equal(some, keptSome) {
		t.Error(whole, other, some)
	}
	clear(whole)
	clear(other)
	clear(some)
	for i, x := range []struct{ got, want []api.Block }{
		{table, []api.Block{of("a", "b", 7), of("l", "i", 1), of("rn", "m", 11)}},
		{merged, []api.Block{of("l", "i", 1), of("rn", "m", 5), of("z", "", 4)}},
		{alone, kept[:2]}, {behind, keptOther[:2]},
		{ofPairs, []api.Block{of("l", "i", 1), of("rn", "m", 1)}},
	} {
		if !slices.Equal(x.got, x.want) {
			t.Error(i, x.got, x.want)
		}
	}
}

// Rule 4: the spare room of an answer is its own, too.
func TestAnswersAreNew(t *testing.T) {
	l := []api.Block{of("l", "i", 1), of("rn", "m", 2), of("z", "", 3)}
	kept := slices.Clone(l)
	for range 2 {
		a, _ := count.Table(l[:2])
		b, _ := count.Merge(l[:2], nil)
		c, _ := count.Merge(nil, l[:2])
		d, _ := count.Merge(l[:2], l[:1])
		for i, x := range [][]api.Block{a, b, c, d} {
			n := 1
			if i == 3 {
				n = 2
			}
			if !slices.Equal(x, []api.Block{of("l", "i", n), of("rn", "m", 2)}) {
				t.Error(i, x)
			}
			clear(x[:cap(x)])
		}
		if !slices.Equal(l, kept) {
			t.Error(l)
		}
	}
}

// Rule 5: the order of a map isn't to be seen.
func TestAnswersHangOnArguments(t *testing.T) {
	l := randomBlocks(rand.New(rand.NewSource(5)), 500)
	want, _ := count.Table(l)
	for range 50 {
		wantOf(t, l, want)
	}
}

// blocksOf is blocks made of a text: those that may not be among them.
func blocksOf(s string) []api.Block {
	var l []api.Block
	for part := range strings.SplitSeq(s, ";") {
		from, to, _ := strings.Cut(part, ",")
		to, ns, _ := strings.Cut(to, ",")
		n := 1
		for _, c := range []byte(ns) {
			n = n*64 + int(c) - '0'
		}
		l = append(l, of(from, to, n))
	}
	return l
}

// why is the chapter's errors of Check, one behind the other.
func why(l []api.Block) api.Errno {
	total := 0
	for _, b := range l {
		if err := block.Check(b); err != api.OK {
			return err
		}
		total += b.N
	}
	switch {
	case !slices.Equal(keys(l), keys(laid(l))):
		return api.ErrForm
	case len(l) > 4096 || total > 1<<30:
		return api.ErrMany
	}
	return api.OK
}

func keys(l []api.Block) []api.Block {
	l = slices.Clone(l)
	for i := range l {
		l[i].N = 0
	}
	return l
}

// P1, P6.1, P6.2, P6.3: whatever is given.
func FuzzBlocks(f *testing.F) {
	f.Add("rn,m;l,i;rn,m", "l,i,3")
	f.Add(",a;a,;a,b", "")
	f.Add("a,b,oooooo;b,", "a,b,~~~~~")
	f.Add("\xff,a", "abcd,;a,a")
	f.Fuzz(func(t *testing.T, s, other string) {
		a, b := blocksOf(s), blocksOf(other)
		if got, want := count.Check(a), why(a); got != want {
			t.Fatalf("Check(%v) = %v; want %v", a, got, want)
		}
		table, err := count.Table(a)
		whole := why(laid(a))
		for _, x := range a {
			if first := block.Check(x); first != api.OK {
				whole = first
				break
			}
		}
		if err != whole {
			t.Fatalf("Table(%v) = %v, %v; want %v", a, table, err, whole)
		}
		if err != api.OK {
			return
		}
		wantOf(t, a, laid(a))
		second, err := count.Table(b)
		if err != api.OK {
			return
		}
		all, err := count.Table(append(a, b...))
		if err != api.OK {
			wantNoMerge(t, table, second, err)
			return
		}
		wantMerge(t, table, second, all)
	})
}
