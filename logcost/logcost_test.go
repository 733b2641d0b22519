package logcost_test

import (
	"math"
	"math/big"
	"math/rand"
	"testing"

	"errata/api"
	"errata/logcost"
)

// power16 is n by the library's great numbers, sixteen times.
func power16(n int) *big.Int {
	return new(big.Int).Exp(big.NewInt(int64(n)), big.NewInt(16), nil)
}

// reaches says whether k doublings of the power of b are no more than that of a.
func reaches(a, b, k int) bool {
	return new(big.Int).Lsh(power16(b), uint(k)).Cmp(power16(a)) <= 0
}

// wantRatio asks for a ratio, and holds it against its meaning.
func wantRatio(t *testing.T, a, b int) {
	t.Helper()
	k, err := logcost.Ratio(a, b)
	if err != api.OK || k < 0 || !reaches(a, b, k) || reaches(a, b, k+1) {
		t.Errorf("Ratio(%d, %d): %d, %d", a, b, k, err)
	}
}

// P3.1: ordinary numbers, and those that the chapter tells.
func TestRatio(t *testing.T) {
	for _, c := range []struct{ a, b, k int }{
		{1, 1, 0}, {2, 1, 16}, {3, 2, 9}, {3, 1, 25}, {4, 1, 32}, {4, 3, 6}, {5, 3, 11}, {7, 7, 0}, {8, 7, 3},
		{10, 1, 53}, {100, 1, 106}, {1000, 10, 106}, {255, 1, 127}, {256, 1, 128}, {257, 1, 128}, {1000000, 1, 318},
	} {
		if k, err := logcost.Ratio(c.a, c.b); k != c.k || err != api.OK {
			t.Errorf("Ratio(%d, %d): %d, %d, not %d", c.a, c.b, k, err, c.k)
		}
	}
}

// P3.1: the edges of what is taken.
func TestRatioEdges(t *testing.T) {
	const most = 1 << 31
	for _, c := range []struct{ a, b, k int }{
		{most, 1, 496}, {most - 1, 1, 495}, {most, 2, 480}, {most, most, 0}, {most, most - 1, 0}, {most - 1, most - 1, 0},
		{most, most / 2, 16}, {most - 1, most / 2, 15}, {most, most/2 + 1, 15}, {most, 3, 470},
	} {
		if k, err := logcost.Ratio(c.a, c.b); k != c.k || err != api.OK {
			t.Errorf("Ratio(%d, %d): %d, %d, not %d", c.a, c.b, k, err, c.k)
		}
	}
}

// P3.1: ErrArg, and no number beside it.
func TestRatioWrong(t *testing.T) {
	const most = 1 << 31
	for _, c := range [][2]int{
		{0, 0}, {1, 0}, {5, -1}, {0, 1}, {-1, 1}, {1, 2}, {-2, -3}, {-3, -3}, {most, 0}, {most + 1, 1}, {most + 1, most + 1},
		{most, most + 1}, {math.MaxInt, 1}, {math.MaxInt, math.MaxInt}, {math.MinInt, 1}, {1, math.MinInt},
		{math.MinInt, math.MinInt}, {1, math.MaxInt}, {math.MaxInt, math.MinInt},
	} {
		if k, err := logcost.Ratio(c[0], c[1]); k != 0 || err != api.ErrArg {
			t.Errorf("Ratio(%d, %d): %d, %d", c[0], c[1], k, err)
		}
	}
}

// P3.1: all small numbers, against the meaning.
func TestRatioSmall(t *testing.T) {
	for a := 1; a <= 130; a++ {
		for b := 1; b <= a; b++ {
			wantRatio(t, a, b)
		}
	}
}

// P3.1: at each step, the least number that reaches it, and the one ahead of that.
func TestRatioSteps(t *testing.T) {
	for _, b := range []int{1, 2, 3, 1000, 4097, 99991, 1 << 20, 1<<20 + 1, 123456789, 1 << 30, 1<<30 + 1, 1<<31 - 2} {
		for k := 0; k <= 496; k++ {
			low, high := b, 1<<31+1
			for low < high {
				if mid := (low + high) / 2; reaches(mid, b, k) {
					high = mid
				} else {
					low = mid + 1
				}
			}
			if low > 1<<31 {
				break
			}
			wantRatio(t, low, b)
			if low > b {
				wantRatio(t, low-1, b)
			}
		}
	}
}

// P3.1: numbers of every size.
func TestRatioMany(t *testing.T) {
	source := rand.New(rand.NewSource(3))
	for range 20000 {
		a := 1 + source.Intn(1<<source.Intn(32))
		wantRatio(t, a, 1+source.Intn(a))
	}
}

// P3.2: costs, held to 1 and to MaxCost.
func TestCost(t *testing.T) {
	for _, c := range []struct{ total, kinds, n, cost int }{
		{15, 1, 0, 64}, {0, 1, 0, 1}, {0, 2, 0, 16}, {0, api.MaxRules, 0, 192}, {3, 1, 3, 1}, {7, 1, 3, 16}, {100, 4, 10, 51},
		{2, 2, 2, 6}, {3, 2, 2, 11}, {api.MaxCount, api.MaxRules, 0, 255}, {api.MaxCount, 1, 0, 255}, {api.MaxCount, 1, api.MaxCount, 1},
		{api.MaxCount, api.MaxRules, api.MaxCount, 1}, {62761, 1, 0, 255}, {1 << 20, 1, 15, 255}, {1 << 20, 1, 16, 254}, {24, 1, 23, 1},
	} {
		if cost, err := logcost.Cost(c.total, c.kinds, c.n); cost != c.cost || err != api.OK {
			t.Errorf("Cost(%d, %d, %d): %d, %d, not %d", c.total, c.kinds, c.n, cost, err, c.cost)
		}
	}
}

// P3.2: ErrArg, and no cost beside it.
func TestCostWrong(t *testing.T) {
	for _, c := range [][3]int{
		{-1, 1, 0}, {-1, 1, -1}, {api.MaxCount + 1, 1, 0}, {1, 0, 0}, {1, -1, 0}, {1, api.MaxRules + 1, 0}, {1, 1, 2}, {1, 1, -1},
		{0, 1, 1}, {math.MaxInt, 1, 0}, {math.MinInt, 1, 0}, {1, math.MaxInt, 0}, {1, math.MinInt, 0}, {1, 1, math.MaxInt}, {1, 1, math.MinInt},
		{math.MaxInt, math.MaxInt, math.MaxInt}, {math.MinInt, math.MinInt, math.MinInt}, {api.MaxCount, api.MaxRules, api.MaxCount + 1},
	} {
		if cost, err := logcost.Cost(c[0], c[1], c[2]); cost != 0 || err != api.ErrArg {
			t.Errorf("Cost(%d, %d, %d): %d, %d", c[0], c[1], c[2], cost, err)
		}
	}
}

// P3.2: a cost is the ratio that the chapter names, between its bounds.
func TestCostIsRatio(t *testing.T) {
	source := rand.New(rand.NewSource(32))
	for range 5000 {
		total := source.Intn(1 << (1 + source.Intn(30)))
		kinds, n := 1+source.Intn(api.MaxRules), source.Intn(total+1)
		k, _ := logcost.Ratio(total+kinds, n+1)
		if cost, err := logcost.Cost(total, kinds, n); cost != min(max(k, 1), 255) || err != api.OK {
			t.Errorf("Cost(%d, %d, %d): %d, %d, ratio %d", total, kinds, n, cost, err, k)
		}
	}
}

// P3.2: sums, held to MaxBudget and MaxCost together.
func TestSum(t *testing.T) {
	for _, c := range [][3]int{
		{0, 0, 0}, {1, 2, 3}, {2, 1, 3}, {0, 4351, 4351}, {4351, 0, 4351}, {4350, 0, 4350}, {4350, 1, 4351}, {4351, 1, 4351}, {1, 4351, 4351},
		{4096, 255, 4351}, {4096, 254, 4350}, {4096, 256, 4351}, {0, 4352, 4351}, {4352, 0, 4351}, {2175, 2175, 4350}, {2176, 2175, 4351},
		{-1, 5, 0}, {5, -1, 0}, {-1, -1, 0}, {-1, 0, 0}, {0, -1, 0}, {-1, math.MaxInt, 0}, {math.MinInt, math.MaxInt, 0}, {math.MaxInt, math.MinInt, 0},
		{math.MaxInt, math.MaxInt, 4351}, {math.MaxInt, 0, 4351}, {0, math.MaxInt, 4351}, {1 << 62, 1 << 62, 4351}, {math.MinInt, math.MinInt, 0},
	} {
		if sum := logcost.Sum(c[0], c[1]); sum != c[2] {
			t.Errorf("Sum(%d, %d): %d, not %d", c[0], c[1], sum, c[2])
		}
	}
}

// P3.3: what is seen more often costs no more.
func TestMoreCostsNoMore(t *testing.T) {
	for _, c := range [][2]int{{0, 1}, {1, 1}, {500, 1}, {500, 40}, {3000, api.MaxRules}} {
		last := api.MaxCost
		for n := 0; n <= c[0]; n++ {
			cost, err := logcost.Cost(c[0], c[1], n)
			if err != api.OK || cost > last {
				t.Errorf("Cost(%d, %d, %d): %d, %d behind %d", c[0], c[1], n, cost, err, last)
			}
			last = cost
		}
	}
}

// P3.3: a doubling is sixteen, of the greater number and of the less.
func TestDoubling(t *testing.T) {
	source := rand.New(rand.NewSource(33))
	for range 5000 {
		a := 1 + source.Intn(1<<30)
		b := 1 + source.Intn(a)
		k, _ := logcost.Ratio(a, b)
		if more, err := logcost.Ratio(2*a, b); more != k+16 || err != api.OK {
			t.Errorf("Ratio(%d, %d): %d, %d behind %d", 2*a, b, more, err, k)
		}
		if same, err := logcost.Ratio(2*a, 2*b); same != k || err != api.OK {
			t.Errorf("Ratio(%d, %d): %d, %d behind %d", 2*a, 2*b, same, err, k)
		}
	}
}
