package tests

import (
	"math"
	"math/rand"
	"testing"

	"loop.example/g00847/impl"
)

// The tests of promise 5, as far as it tells of how long one waits: a clock
// waits no less than its least, no more than its most.

type clock = impl.Clock

const mostTook = 1000

// farClockNumbers are neither a Mean nor a Rto, also if some of their bits are cut off.
var farClockNumbers = []int64{math.MinInt64, math.MinInt64 + 1, -1 << 32, -1<<32 + 8, -1001, -1000, -64, -2, 1 << 16, 1<<16 + 8, 1 << 32, 1<<32 + 8, math.MaxInt64 - 1, math.MaxInt64}

var (
	edgeMeans = []int64{-1, 0, 1, 2, 500, 999, mostTook, mostTook + 1}
	edgeRtos  = []int64{-1, 0, 1, impl.RtoMin - 1, impl.RtoMin, impl.RtoMin + 1, 31, 32, 33, impl.RtoMax - 1, impl.RtoMax, impl.RtoMax + 1}
	edgeTooks = []int64{-1, 0, 1, 2, 3, 4, 7, 8, 9, 16, 63, 64, 65, 500, 999, mostTook, mostTook + 1}
)

func hasClockForm(c clock) bool {
	within := func(n int64, least int64, most int64) bool { return n >= least && n <= most }
	return within(c.Mean, 0, mostTook) && within(c.Var, 0, mostTook) && within(c.Rto, impl.RtoMin, impl.RtoMax)
}

func cutTo(n int64, least int64, most int64) int64 {
	switch {
	case n < least:
		return least
	case n > most:
		return most
	}
	return n
}

// whole is such a part of n without the rest, worked out on floats.
func whole(n int64, part float64) int64 {
	return int64(math.Floor(float64(n) / part))
}

// sampled is what the document says that the sample tells.
func sampled(c clock, took int64) clock {
	if !hasClockForm(c) {
		return c
	}
	took = cutTo(took, 0, mostTook)
	mean, spread := took, whole(took, 2)
	if c.Mean != 0 || c.Var != 0 {
		away := int64(math.Abs(float64(took - c.Mean)))
		mean, spread = whole(7*c.Mean+took, 8), whole(3*c.Var+away, 4)
	}
	return clock{Mean: mean, Var: spread, Rto: cutTo(mean+4*spread, impl.RtoMin, impl.RtoMax)}
}

func slowed(c clock) clock {
	if hasClockForm(c) {
		c.Rto = cutTo(c.Rto+c.Rto, impl.RtoMin, impl.RtoMax)
	}
	return c
}

// edgeClocks are all of the numbers at the edges, right and not.
func edgeClocks() []clock {
	var all []clock
	for _, mean := range edgeMeans {
		for _, spread := range edgeMeans {
			for _, rto := range edgeRtos {
				all = append(all, clock{Mean: mean, Var: spread, Rto: rto})
			}
		}
	}
	return all
}

func rightEdgeClocks() []clock {
	var right []clock
	for _, c := range edgeClocks() {
		if hasClockForm(c) {
			right = append(right, c)
		}
	}
	return right
}

// clocksWrongInOne are right but for one field.
func clocksWrongInOne() []clock {
	var all []clock
	for _, right := range rightEdgeClocks() {
		for _, n := range append([]int64{-1, mostTook + 1}, farClockNumbers...) {
			mean, spread := right, right
			mean.Mean, spread.Var = n, n
			all = append(all, mean, spread)
		}
		for _, n := range append([]int64{-1, 0, 1, impl.RtoMin - 1, impl.RtoMax + 1, 128, mostTook}, farClockNumbers...) {
			rto := right
			rto.Rto = n
			all = append(all, rto)
		}
	}
	return all
}

func TestClockNew(t *testing.T) {
	same(t, "a new one", impl.ClockNew(), clock{Rto: 8})
	same(t, "it is right", impl.ClockRight(impl.ClockNew()), true)
}

func TestClockRight(t *testing.T) {
	for _, c := range edgeClocks() {
		same(t, "right "+shown(c), impl.ClockRight(c), hasClockForm(c))
	}
	for _, c := range clocksWrongInOne() {
		same(t, "wrong in one field "+shown(c), impl.ClockRight(c), false)
	}
	for n := int64(-100); n < 1200; n++ {
		took, rto := n >= 0 && n <= mostTook, n >= impl.RtoMin && n <= impl.RtoMax
		same(t, "Mean", impl.ClockRight(clock{Mean: n, Rto: 8}), took)
		same(t, "Var", impl.ClockRight(clock{Var: n, Rto: 8}), took)
		same(t, "Rto", impl.ClockRight(clock{Rto: n}), rto)
	}
	same(t, "the zero one", impl.ClockRight(clock{}), false)
	same(t, "the least", impl.ClockRight(clock{Rto: impl.RtoMin}), true)
	same(t, "the most", impl.ClockRight(clock{Mean: mostTook, Var: mostTook, Rto: impl.RtoMax}), true)
}

// TestFirstSample is of Mean 0 and Var 0, whatever the Rto is.
func TestFirstSample(t *testing.T) {
	cases := []struct {
		took int64
		want clock
	}{
		{0, clock{Mean: 0, Var: 0, Rto: 4}},
		{1, clock{Mean: 1, Var: 0, Rto: 4}},
		{2, clock{Mean: 2, Var: 1, Rto: 6}},
		{3, clock{Mean: 3, Var: 1, Rto: 7}},
		{8, clock{Mean: 8, Var: 4, Rto: 24}},
		{20, clock{Mean: 20, Var: 10, Rto: 60}},
		{21, clock{Mean: 21, Var: 10, Rto: 61}},
		{22, clock{Mean: 22, Var: 11, Rto: 64}},
		{999, clock{Mean: 999, Var: 499, Rto: 64}},
		{1000, clock{Mean: 1000, Var: 500, Rto: 64}},
		{1001, clock{Mean: 1000, Var: 500, Rto: 64}},
		{math.MaxInt64, clock{Mean: 1000, Var: 500, Rto: 64}},
		{1 << 32, clock{Mean: 1000, Var: 500, Rto: 64}},
		{-1, clock{Mean: 0, Var: 0, Rto: 4}},
		{-1 << 32, clock{Mean: 0, Var: 0, Rto: 4}},
		{math.MinInt64, clock{Mean: 0, Var: 0, Rto: 4}},
	}
	for _, c := range cases {
		for rto := int64(impl.RtoMin); rto <= impl.RtoMax; rto++ {
			same(t, "took "+shown(c.took), impl.ClockSample(clock{Rto: rto}, c.took), c.want)
		}
	}
	zero := impl.ClockSample(impl.ClockNew(), 0)
	same(t, "behind one that took 0 the first one again", impl.ClockSample(zero, 8), clock{Mean: 8, Var: 4, Rto: 24})
}

func TestNextSample(t *testing.T) {
	cases := []struct {
		what   string
		mean   int64
		spread int64
		took   int64
		want   clock
	}{
		{"Mean alone 0", 0, 1, 8, clock{Mean: 1, Var: 2, Rto: 9}},
		{"Mean alone 0, took it", 0, 4, 0, clock{Mean: 0, Var: 3, Rto: 12}},
		{"Mean alone 0, to 0 both", 0, 1, 0, clock{Mean: 0, Var: 0, Rto: 4}},
		{"Var alone 0", 1, 0, 9, clock{Mean: 2, Var: 2, Rto: 10}},
		{"Var alone 0, to 0 both", 1, 0, 0, clock{Mean: 0, Var: 0, Rto: 4}},
		{"below the Mean", 16, 2, 8, clock{Mean: 15, Var: 3, Rto: 27}},
		{"the Mean", 16, 2, 16, clock{Mean: 16, Var: 1, Rto: 20}},
		{"above the Mean", 16, 2, 24, clock{Mean: 17, Var: 3, Rto: 29}},
		{"Var from the Mean as it was", 8, 4, 16, clock{Mean: 9, Var: 5, Rto: 29}},
		{"the rest of a sum's quarter", 8, 1, 9, clock{Mean: 8, Var: 1, Rto: 12}},
		{"a quarter with the greatest rest", 8, 2, 9, clock{Mean: 8, Var: 1, Rto: 12}},
		{"a quarter without a rest", 8, 2, 10, clock{Mean: 8, Var: 2, Rto: 16}},
		{"an eighth with the greatest rest", 9, 0, 8, clock{Mean: 8, Var: 0, Rto: 8}},
		{"an eighth without a rest", 8, 0, 0, clock{Mean: 7, Var: 2, Rto: 15}},
		{"Rto one below the least", 3, 0, 3, clock{Mean: 3, Var: 0, Rto: 4}},
		{"Rto at the least", 4, 0, 4, clock{Mean: 4, Var: 0, Rto: 4}},
		{"Rto one above the least", 5, 0, 5, clock{Mean: 5, Var: 0, Rto: 5}},
		{"Rto one below the most", 63, 0, 63, clock{Mean: 63, Var: 0, Rto: 63}},
		{"Rto at the most", 64, 0, 64, clock{Mean: 64, Var: 0, Rto: 64}},
		{"Rto at the most by the Var", 40, 8, 40, clock{Mean: 40, Var: 6, Rto: 64}},
		{"Rto one above the most", 65, 0, 65, clock{Mean: 65, Var: 0, Rto: 64}},
		{"the greatest of all", 1000, 1000, 1000, clock{Mean: 1000, Var: 750, Rto: 64}},
		{"as far away as can be", 1000, 1000, 0, clock{Mean: 875, Var: 1000, Rto: 64}},
		{"as far away from 0", 0, 1000, 1000, clock{Mean: 125, Var: 1000, Rto: 64}},
		{"took -1", 16, 2, -1, clock{Mean: 14, Var: 5, Rto: 34}},
		{"took the least", 16, 2, math.MinInt64, clock{Mean: 14, Var: 5, Rto: 34}},
		{"took 0", 16, 2, 0, clock{Mean: 14, Var: 5, Rto: 34}},
		{"took 1001", 16, 2, 1001, clock{Mean: 139, Var: 247, Rto: 64}},
		{"took the greatest", 16, 2, math.MaxInt64, clock{Mean: 139, Var: 247, Rto: 64}},
		{"took 1000", 16, 2, 1000, clock{Mean: 139, Var: 247, Rto: 64}},
	}
	for _, c := range cases {
		for _, rto := range []int64{impl.RtoMin, 8, 63, impl.RtoMax} { // what it was turns nothing
			same(t, c.what, impl.ClockSample(clock{Mean: c.mean, Var: c.spread, Rto: rto}, c.took), c.want)
		}
	}
}

// TestSampleAsTold goes through all Means with some Vars, and all Vars with
// some Means.
func TestSampleAsTold(t *testing.T) {
	tooks := append(append([]int64(nil), edgeTooks...), farClockNumbers...)
	for n := int64(-2); n <= mostTook+2; n++ {
		for _, other := range []int64{0, 1, 2, 3, 8, 13, 500, 999, mostTook} {
			for _, took := range append(tooks, n-1, n, n+1, n+2, n+3, n+4, n+7) {
				c := clock{Mean: n, Var: other, Rto: impl.RtoMin + took&31}
				same(t, shown(c)+" took "+shown(took), impl.ClockSample(c, took), sampled(c, took))
				c.Mean, c.Var = c.Var, c.Mean
				same(t, shown(c)+" took "+shown(took), impl.ClockSample(c, took), sampled(c, took))
			}
		}
	}
}

func TestSlow(t *testing.T) {
	for rto := int64(-2); rto <= 2*impl.RtoMax+2; rto++ {
		for _, c := range []clock{{Rto: rto}, {Mean: 7, Var: 9, Rto: rto}, {Mean: mostTook, Var: mostTook, Rto: rto}} {
			same(t, shown(c), impl.ClockSlow(c), slowed(c))
		}
	}
	same(t, "the least", impl.ClockSlow(clock{Mean: 1, Var: 2, Rto: 4}), clock{Mean: 1, Var: 2, Rto: 8})
	same(t, "the double below the most", impl.ClockSlow(clock{Mean: 1, Var: 2, Rto: 31}), clock{Mean: 1, Var: 2, Rto: 62})
	same(t, "the double at the most", impl.ClockSlow(clock{Mean: 1, Var: 2, Rto: 32}), clock{Mean: 1, Var: 2, Rto: 64})
	same(t, "the double above the most", impl.ClockSlow(clock{Mean: 1, Var: 2, Rto: 33}), clock{Mean: 1, Var: 2, Rto: 64})
	same(t, "the most", impl.ClockSlow(clock{Mean: 1, Var: 2, Rto: 64}), clock{Mean: 1, Var: 2, Rto: 64})
	c := impl.ClockNew()
	for _, rto := range []int64{16, 32, 64, 64} {
		c = impl.ClockSlow(c)
		same(t, "slowed again", c, clock{Rto: rto})
	}
}

// TestWrongClockStays: it is handed back as it is, also where it could be set
// right.
func TestWrongClockStays(t *testing.T) {
	wrong := append(clocksWrongInOne(), clock{}, clock{Mean: -1, Var: -1, Rto: -1}, clock{Mean: math.MinInt64, Var: math.MaxInt64, Rto: math.MaxInt64}, clock{Mean: math.MaxInt64, Var: math.MinInt64, Rto: math.MinInt64})
	for _, c := range wrong {
		same(t, "slowed "+shown(c), impl.ClockSlow(c), c)
		for _, took := range []int64{math.MinInt64, -1, 0, 1, 8, mostTook, mostTook + 1, math.MaxInt64} {
			same(t, "sampled "+shown(c), impl.ClockSample(c, took), c)
		}
	}
}

// TestClockLess: a Var, a Rto, and whether they are right, turn nothing.
func TestClockLess(t *testing.T) {
	means := append(append([]int64(nil), edgeMeans...), farClockNumbers...)
	for _, a := range means {
		for _, b := range means {
			for _, rto := range []int64{0, impl.RtoMin, impl.RtoMax, math.MaxInt64} {
				less := clock{Mean: a, Var: rto, Rto: rto}
				than := clock{Mean: b, Var: mostTook - rto/2, Rto: impl.RtoMax - rto/2}
				same(t, shown(less)+" less than "+shown(than), impl.ClockLess(less, than), a < b)
			}
		}
	}
	same(t, "less", impl.ClockLess(clock{Mean: 7, Var: 9, Rto: 60}, clock{Mean: 8, Var: 1, Rto: 4}), true)
	same(t, "more", impl.ClockLess(clock{Mean: 8, Var: 1, Rto: 4}, clock{Mean: 7, Var: 9, Rto: 60}), false)
	same(t, "the same", impl.ClockLess(clock{Mean: 8, Var: 1, Rto: 4}, clock{Mean: 8, Var: 9, Rto: 60}), false)
	same(t, "the same the other way round", impl.ClockLess(clock{Mean: 8, Var: 9, Rto: 60}, clock{Mean: 8, Var: 1, Rto: 4}), false)
	same(t, "one and itself", impl.ClockLess(impl.ClockNew(), impl.ClockNew()), false)
}

// TestClockArgumentsStay looks at clocks that stand in a list, and does each
// call again behind others: nothing is kept.
func TestClockArgumentsStay(t *testing.T) {
	all := append(edgeClocks(), clocksWrongInOne()...)
	for i, before := range all {
		took := edgeTooks[i%len(edgeTooks)]
		other := len(all) - 1 - i
		for range 2 {
			same(t, "sampled", impl.ClockSample(all[i], took), sampled(before, took))
			same(t, "slowed", impl.ClockSlow(all[i]), slowed(before))
			same(t, "right", impl.ClockRight(all[i]), hasClockForm(before))
			same(t, "less", impl.ClockLess(all[i], all[other]), before.Mean < all[other].Mean)
			same(t, "a new one", impl.ClockNew(), clock{Rto: 8})
			same(t, "not changed", all[i], before)
			impl.ClockSample(all[other], took+1)
		}
	}
}

// TestClockStaysWithin takes samples and slows as it comes: whatever came
// ahead, one waits no less than the least, and no more than the most.
func TestClockStaysWithin(t *testing.T) {
	random := rand.New(rand.NewSource(14))
	for _, c := range append(rightEdgeClocks(), impl.ClockNew()) {
		want := c
		for range 500 {
			took := edgeTooks[random.Intn(len(edgeTooks))]
			switch random.Intn(4) {
			case 0:
				c, want = impl.ClockSlow(c), slowed(want)
			case 1:
				c, want = impl.ClockSample(c, took), sampled(want, took)
			case 2:
				took = random.Int63n(30)
				c, want = impl.ClockSample(c, took), sampled(want, took)
			case 3:
				took = int64(random.Uint64())
				c, want = impl.ClockSample(c, took), sampled(want, took)
			}
			same(t, "as told", c, want)
			same(t, "right", impl.ClockRight(c), true)
			same(t, "within", c.Rto >= impl.RtoMin && c.Rto <= impl.RtoMax, true)
		}
	}
}
