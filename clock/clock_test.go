package clock_test

import (
	"math"
	"math/big"
	"slices"
	"testing"

	"cuecard/clock"
)

// The signatures are part of what is asked: a change of one must not build.
var (
	_ func() *clock.Clock              = clock.New
	_ func(*clock.Clock, int64) int64  = (*clock.Clock).See
	_ func(*clock.Clock) (int64, bool) = (*clock.Clock).Last
	_ func(int64, int64) int64         = clock.Delta
	_ func(int64, int64) int64         = clock.Add
	_ func(int64, int64) uint64        = clock.Spent
)

const (
	least    = math.MinInt64
	greatest = math.MaxInt64
)

// edges: times at which a sign, a bound or a bit changes.
var edges = []int64{
	least, least + 1, least + 2, -1<<62 - 1, -1 << 62, -1<<62 + 1, -1<<32 - 1, -1 << 32, math.MinInt32 - 1, math.MinInt32, -300, -2, -1,
	0, 1, 2, 300, math.MaxInt32, math.MaxInt32 + 1, 1<<32 - 1, 1 << 32, 1<<53 + 1, 1<<62 - 1, 1 << 62, 1<<62 + 1, greatest - 2, greatest - 1, greatest,
}

// spread: so many times that are spread over all of them, great and small, of either sign.
func spread(n int) []int64 {
	var l []int64
	x := uint64(1)
	for i := range n {
		x = x*6364136223846793005 + 1442695040888963407
		l = append(l, int64(x)>>(i%64))
	}
	return l
}

// pairs goes through any two of the edges, and any two neighbours of those that are spread.
func pairs(look func(a, b int64)) {
	for _, a := range edges {
		for _, b := range edges {
			look(a, b)
		}
	}
	l := spread(20000)
	for i := range len(l) - 1 {
		look(l[i], l[i+1])
		look(l[i+1], l[i])
		look(l[i], l[i])
	}
}

// opened: a clock that has seen nothing.
func opened(t *testing.T) *clock.Clock {
	t.Helper()
	c := clock.New()
	if c == nil {
		t.Fatal("New(): nil")
	}
	return c
}

// sees: what See tells, and that Last tells the same behind it.
func sees(t *testing.T, c *clock.Clock, x, want int64) {
	t.Helper()
	if y := c.See(x); y != want {
		t.Errorf("See(%d): %d, wanted %d", x, y, want)
	}
	lasts(t, c, want, true)
}

// lasts: what Last tells, and that asking changes nothing.
func lasts(t *testing.T, c *clock.Clock, want int64, wanted bool) {
	t.Helper()
	for range 3 {
		if y, ok := c.Last(); y != want || ok != wanted {
			t.Errorf("Last(): %d, %v, wanted %d, %v", y, ok, want, wanted)
		}
	}
}

// P3.1: a clock.

func TestExampleOfSee(t *testing.T) {
	c := opened(t)
	sees(t, c, 5, 5)
	sees(t, c, 3, 5)
	sees(t, c, 9, 9)
}

func TestAClockThatHasSeenNothing(t *testing.T) {
	lasts(t, opened(t), 0, false)
}

// Whatever the first time is, it is the greatest so far: also below 0, and 0 itself.
func TestTheFirstTime(t *testing.T) {
	for _, x := range edges {
		sees(t, opened(t), x, x)
		c := opened(t)
		lasts(t, c, 0, false)
		sees(t, c, x, x)
	}
}

// A first time 0 has been seen: what is less is held against it.
func TestAFirstTimeOfZero(t *testing.T) {
	for _, x := range []int64{least, -300, -1} {
		c := opened(t)
		sees(t, c, 0, 0)
		sees(t, c, x, 0)
		sees(t, c, 0, 0)
		sees(t, c, 1, 1)
		sees(t, c, 0, 1)
	}
}

func TestFirstTimesBelowZero(t *testing.T) {
	c := opened(t)
	sees(t, c, least, least)
	sees(t, c, least, least)
	sees(t, c, least+1, least+1)
	sees(t, c, least, least+1)
	sees(t, c, -5, -5)
	sees(t, c, -9, -5)
	sees(t, c, -1, -1)
	sees(t, c, -2, -1)
	sees(t, c, 0, 0)
	sees(t, c, -1, 0)
}

func TestTheGreatestTimeStays(t *testing.T) {
	c := opened(t)
	sees(t, c, greatest-1, greatest-1)
	sees(t, c, least, greatest-1)
	sees(t, c, greatest, greatest)
	for _, x := range edges {
		sees(t, c, x, greatest)
	}
}

func TestTheSameTimeAgain(t *testing.T) {
	for _, x := range edges {
		c := opened(t)
		sees(t, c, x, x)
		sees(t, c, x, x)
		sees(t, c, x, x)
	}
}

// Of two times the greater one is told, however far they lie apart.
func TestTwoTimes(t *testing.T) {
	for _, a := range edges {
		for _, b := range edges {
			c := opened(t)
			sees(t, c, a, a)
			sees(t, c, b, max(a, b))
			sees(t, c, a, max(a, b))
		}
	}
}

// Last is what See told, not what it was told; a Last between two Sees makes no difference.
func TestLastIsWhatSeeTold(t *testing.T) {
	asked, unasked := opened(t), opened(t)
	for _, x := range spread(2000) {
		y := asked.See(x)
		lasts(t, asked, y, true)
		if z := unasked.See(x); z != y {
			t.Fatalf("See(%d): %d and %d", x, y, z)
		}
	}
	y, _ := asked.Last()
	lasts(t, unasked, y, true)
}

// The line in brackets: a nil Clock, which keeps nothing.
func TestANilClock(t *testing.T) {
	var none *clock.Clock
	lasts(t, none, 0, false)
	for _, x := range append(slices.Clone(edges), 7, 3, least, 0) {
		if y := none.See(x); y != x {
			t.Errorf("See(%d) of a nil Clock: %d", x, y)
		}
		lasts(t, none, 0, false)
	}
}

// P3.2: Delta, Add and Spent.

// gaps: two times, how far it is, and how long, told by hand.
var gaps = []struct {
	a, b, delta int64
	spent       uint64
}{
	{0, 0, 0, 0},
	{3, 10, 7, 7},
	{10, 3, -7, 0},
	{-3, 4, 7, 7},
	{4, -3, -7, 0},
	{-10, -3, 7, 7},
	{-3, -10, -7, 0},
	{5, 6, 1, 1},
	{6, 5, -1, 0},
	{0, greatest, greatest, greatest},
	{greatest, 0, -greatest, 0},
	{-1, greatest, least, 1 << 63},
	{greatest, -1, least, 0},
	{-2, greatest, least + 1, 1<<63 + 1},
	{0, least, least, 0},
	{least, 0, least, 1 << 63},
	{least, -1, greatest, greatest},
	{-1, least, -greatest, 0},
	{least, 1, least + 1, 1<<63 + 1},
	{1, least, greatest, 0},
	{least, greatest, -1, math.MaxUint64},
	{greatest, least, 1, 0},
	{least, greatest - 1, -2, math.MaxUint64 - 1},
	{least + 1, greatest, -2, math.MaxUint64 - 1},
	{greatest - 1, least, 2, 0},
	{least, least, 0, 0},
	{least, least + 1, 1, 1},
	{least + 1, least, -1, 0},
	{greatest, greatest, 0, 0},
	{greatest - 1, greatest, 1, 1},
	{greatest, greatest - 1, -1, 0},
	{-1 << 62, 1 << 62, least, 1 << 63},
	{1 << 62, -1 << 62, least, 0},
}

func TestGapsByHand(t *testing.T) {
	for _, g := range gaps {
		if d := clock.Delta(g.a, g.b); d != g.delta {
			t.Errorf("Delta(%d, %d): %d, wanted %d", g.a, g.b, d, g.delta)
		}
		if b := clock.Add(g.a, g.delta); b != g.b {
			t.Errorf("Add(%d, %d): %d, wanted %d", g.a, g.delta, b, g.b)
		}
		if s := clock.Spent(g.a, g.b); s != g.spent {
			t.Errorf("Spent(%d, %d): %d, wanted %d", g.a, g.b, s, g.spent)
		}
	}
}

func TestExampleOfDelta(t *testing.T) {
	if d := clock.Delta(1<<63-1, -1<<63); d != 1 {
		t.Error("Delta(2^63 - 1, -2^63):", d)
	}
}

// folded: the number from -2^63 to 2^63 - 1 that is x but for a multiple of 2^64.
func folded(x *big.Int) *big.Int {
	half, whole := new(big.Int).Lsh(big.NewInt(1), 63), new(big.Int).Lsh(big.NewInt(1), 64)
	y := new(big.Int).Add(x, half)
	y.Mod(y, whole) // from 0 to 2^64 - 1, of whatever sign x is
	return y.Sub(y, half)
}

// As the document's words say it, in numbers without a bound.
func TestGapsAsTheDocumentAsks(t *testing.T) {
	pairs(func(a, b int64) {
		far := new(big.Int).Sub(big.NewInt(b), big.NewInt(a))
		if d := clock.Delta(a, b); big.NewInt(d).Cmp(folded(far)) != 0 {
			t.Fatalf("Delta(%d, %d): %d, wanted %v", a, b, d, folded(far))
		}
		sum := new(big.Int).Add(big.NewInt(a), big.NewInt(b))
		if y := clock.Add(a, b); big.NewInt(y).Cmp(folded(sum)) != 0 {
			t.Fatalf("Add(%d, %d): %d, wanted %v", a, b, y, folded(sum))
		}
		if far.Sign() < 0 {
			far.SetInt64(0)
		}
		if s := clock.Spent(a, b); new(big.Int).SetUint64(s).Cmp(far) != 0 {
			t.Fatalf("Spent(%d, %d): %d, wanted %v", a, b, s, far)
		}
	})
}

// P3.3: what follows.

// Told any row of times, a clock tells the greatest so far, and so never goes back.
func neverGoesBack(t *testing.T, times []int64) {
	t.Helper()
	c := opened(t)
	last := int64(least)
	for i, x := range times {
		y := c.See(x)
		if y < last || y != slices.Max(times[:i+1]) {
			t.Fatalf("See(%d) behind %v: %d, and %d ahead of it", x, times[:i], y, last)
		}
		lasts(t, c, y, true)
		last = y
	}
}

func TestSeeNeverGoesBack(t *testing.T) {
	neverGoesBack(t, spread(1000))
	neverGoesBack(t, edges)
	back := slices.Clone(edges)
	slices.Reverse(back)
	neverGoesBack(t, back)
	few := []int64{least, -5, -1, 0, 1, greatest}
	for _, a := range few {
		for _, b := range few {
			for _, c := range few {
				for _, d := range few {
					neverGoesBack(t, []int64{a, b, c, d})
				}
			}
		}
	}
}

func TestAddOfADeltaIsThere(t *testing.T) {
	pairs(func(a, b int64) {
		if y := clock.Add(a, clock.Delta(a, b)); y != b {
			t.Fatalf("Add(%d, Delta(%d, %d)): %d", a, a, b, y)
		}
		if d := clock.Delta(a, clock.Add(a, b)); d != b {
			t.Fatalf("Delta(%d, Add(%d, %d)): %d", a, a, b, d)
		}
	})
}

// P2: two clocks have nothing to do with one another.

func TestTwoClocks(t *testing.T) {
	a, b := opened(t), opened(t)
	sees(t, a, 50, 50)
	lasts(t, b, 0, false)
	sees(t, b, -7, -7)
	lasts(t, a, 50, true)
	sees(t, b, 90, 90)
	sees(t, a, 40, 50)
	sees(t, a, 60, 60)
	lasts(t, b, 90, true)
	lasts(t, opened(t), 0, false) // nor has one that is made later
	var none *clock.Clock
	if y := none.See(1); y != 1 {
		t.Error("See(1) of a nil Clock:", y)
	}
	lasts(t, a, 60, true)
}

func TestManyClocks(t *testing.T) {
	clocks := make([]*clock.Clock, 100)
	for i := range clocks {
		clocks[i] = opened(t)
	}
	told := make([][]int64, len(clocks))
	for n, x := range spread(5000) {
		i := n * 37 % len(clocks)
		told[i] = append(told[i], x)
		sees(t, clocks[i], x, slices.Max(told[i]))
	}
	for i, c := range clocks {
		lasts(t, c, slices.Max(told[i]), true)
	}
}
