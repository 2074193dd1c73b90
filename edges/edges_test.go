package edges

import (
	"math"
	"math/rand"
	"slices"
	"testing"
)

var (
	inf      = math.Inf(1)
	nan      = value(0x7ff8000000000001) // the clean one
	minus0   = math.Copysign(0, -1)
	tiny     = math.SmallestNonzeroFloat64
	greatest = math.MaxFloat64
)

// missing are values that are missing, of unlike bits, the clean one first.
var missing = []float64{
	nan, value(0x7ff8000000000000), value(0x7ff8000000000123), value(0x7fffffffffffffff), value(0x7ff0000000000001),
	value(0xfff0000000000001), value(0xfff8000000000000), value(0xfff8000000000001), value(0xffffffffffffffff),
}

// noBins are numbers of bins for which there are no edges.
var noBins = []int{1, 0, -1, -2, -256, 257, 258, 65536, math.MinInt, math.MinInt + 1, math.MaxInt, math.MaxInt - 1}

func value(bits uint64) float64 { return math.Float64frombits(bits) }

func bitsOf(l []float64) []uint64 {
	bits := []uint64{}
	for _, f := range l {
		bits = append(bits, math.Float64bits(f))
	}
	return bits
}

// numbers are those from first on to last.
func numbers(first, last int) []float64 {
	l := []float64{}
	for n := first; n <= last; n++ {
		l = append(l, float64(n))
	}
	return l
}

// steps are so many numbers from first on, each so much above the one ahead.
func steps(first, step, count int) []float64 {
	l := []float64{}
	for i := range count {
		l = append(l, float64(first+i*step))
	}
	return l
}

// often is a number, so many times.
func often(f float64, times int) []float64 { return slices.Repeat([]float64{f}, times) }

func join(ls ...[]float64) []float64 { return slices.Concat(ls...) }

// mixed are the values in another order.
func mixed(r *rand.Rand, l []float64) []float64 {
	l = slices.Clone(l)
	r.Shuffle(len(l), func(i, j int) { l[i], l[j] = l[j], l[i] })
	return l
}

// ahead tells whether a stands ahead of b, as the language holds numbers against one another.
func ahead(a, b float64) bool {
	return a != a && b == b || a < b
}

// anyValues are so many, often the same or near ones, among them what is missing, infinite, 0 and -0.
func anyValues(r *rand.Rand, n int) []float64 {
	few := []float64{inf, -inf, 0, minus0, tiny, -tiny, greatest, -greatest}
	spread := 1 + r.Intn(60)
	l := []float64{}
	for range n {
		switch r.Intn(8) {
		case 0:
			l = append(l, few[r.Intn(len(few))])
		case 1:
			l = append(l, missing[r.Intn(len(missing))])
		case 2:
			l = append(l, value(r.Uint64()))
		default:
			l = append(l, float64(r.Intn(spread)-spread/2))
		}
	}
	return l
}

// cutAt are the edges of values, told by another way than the program's: of values in order those that are the same as f stand at the places from how many stand ahead of it to ahead of how many don't stand behind it; f is an edge, if the first of these isn't 0, and some q comes to one of them.
func cutAt(l []float64, bins int) []float64 {
	n, out := 0, []float64{}
	for _, f := range l {
		if f == f {
			n++
		}
	}
	for _, f := range l {
		from, to := 0, 0
		for _, x := range l {
			if x < f {
				from++
			}
			if x <= f {
				to++
			}
		}
		if f != f || from == 0 || slices.Contains(out, f) {
			continue
		}
		if q := (from*bins + n - 1) / n; q < bins && q*n < to*bins {
			out = append(out, f+0) // 0, if it is -0
		}
	}
	slices.Sort(out)
	return out
}

// of holds Of's answer bit by bit, and that it shares no memory with what is handed in, nor with another answer, nor writes into it, nor behind it.
func of(t *testing.T, l []float64, bins int, want []float64) {
	t.Helper()
	const beyond = 424242
	whole := append(slices.Clone(l), beyond, beyond)
	in := whole[:len(l)] // there is room behind it, into which who appends would write
	was := bitsOf(whole)
	out := Of(in, bins)
	if !slices.Equal(bitsOf(out), bitsOf(want)) {
		t.Fatalf("%d bins of %d values %v: %v, not %v", bins, len(l), l[:min(len(l), 40)], out, want)
	}
	again := Of(in, bins)
	for i := range out {
		out[i] = -12345
	}
	_ = append(out[:len(out):cap(out)], often(-12345, cap(out)-len(out))...)
	if !slices.Equal(bitsOf(whole), was) {
		t.Fatalf("%d bins: %v became %v", bins, l, whole)
	}
	for i := range whole {
		whole[i] = 54321
	}
	if !slices.Equal(bitsOf(again), bitsOf(want)) {
		t.Fatalf("%d bins of %v: what was answered became %v", bins, l, again)
	}
}

// cut are values, for so many bins, and their edges.
type cut struct {
	l    []float64
	bins int
	want []float64
}

// ofEach holds Of's answer of each list as it stands, the other way round, and in other orders.
func ofEach(t *testing.T, cuts []cut) {
	t.Helper()
	r := rand.New(rand.NewSource(2))
	for _, x := range cuts {
		of(t, x.l, x.bins, x.want)
		back := slices.Clone(x.l)
		slices.Reverse(back)
		of(t, back, x.bins, x.want)
		for range 4 {
			of(t, mixed(r, x.l), x.bins, x.want)
		}
	}
}

// bin looks that a value's bin is this, and that the edges stay as they are.
func bin(t *testing.T, edges []float64, f float64, want int) {
	t.Helper()
	was := bitsOf(edges)
	if b := Bin(edges, f); b != want {
		t.Errorf("by %v the bin of %v (%016x): %d, not %d", edges[:min(len(edges), 40)], f, math.Float64bits(f), b, want)
	}
	if !slices.Equal(bitsOf(edges), was) {
		t.Errorf("Bin made %v of the edges", edges)
	}
}

// right looks that Right tells this, and that the edges stay as they are.
func right(t *testing.T, edges []float64, want bool) {
	t.Helper()
	was := bitsOf(edges)
	if got := Right(edges); got != want {
		t.Errorf("%d edges, %v: %v", len(edges), edges[:min(len(edges), 40)], got)
	}
	if !slices.Equal(bitsOf(edges), was) {
		t.Errorf("Right made %v of the edges", edges)
	}
}

// with is the list with other values from a place on.
func with(l []float64, place int, other ...float64) []float64 {
	l = slices.Clone(l)
	copy(l[place:], other)
	return l
}

// manyBins are numbers of bins, the least and the greatest among them.
var manyBins = []int{2, 3, 4, 5, 7, 16, 31, 100, 128, 254, 255, 256}

// eachCut goes through many lists of values, in any order, for many numbers of bins.
func eachCut(seed int64, do func(l []float64, bins int)) {
	r := rand.New(rand.NewSource(seed))
	for range 60 {
		for _, bins := range manyBins {
			l := anyValues(r, r.Intn(90))
			if r.Intn(4) == 0 { // more values than bins, whatever these are
				l = anyValues(r, 257+r.Intn(300))
			}
			do(l, bins)
		}
	}
}

// P10.1: the chapter's examples.
func TestExamples(t *testing.T) {
	of(t, []float64{5, 1, 3, 1}, 2, []float64{3})
	bin(t, []float64{3}, 1, 1)
	bin(t, []float64{3}, 3, 2)
	bin(t, []float64{3}, nan, 0)
}

// P10.1: Of no values, of one, of those that are all the same: none, for whatever bins.
func TestOfFew(t *testing.T) {
	for _, bins := range slices.Concat(noBins, manyBins) {
		if out := Of(nil, bins); len(out) != 0 {
			t.Errorf("%d bins of nil: %v", bins, out)
		}
		of(t, []float64{}, bins, nil)
		for _, f := range []float64{7, -7, 0, minus0, inf, -inf, tiny, -tiny, greatest, -greatest, nan} {
			for _, times := range []int{1, 2, 3, 255, 256, 257, 600} {
				of(t, often(f, times), bins, nil)
			}
		}
		of(t, missing, bins, nil)
		of(t, []float64{0, minus0, 0}, bins, nil)
		of(t, []float64{minus0, 0, minus0}, bins, nil)
		of(t, join(missing, []float64{4}, missing), bins, nil)
	}
}

// P10.1: Of so many bins as can't be: none.
func TestOfNoBins(t *testing.T) {
	for _, bins := range noBins {
		for _, l := range [][]float64{{1, 2}, {5, 1, 3, 1}, numbers(0, 999), {nan, 1, 2}, {-inf, inf}} {
			of(t, l, bins, nil)
		}
	}
}

// P10.1: Of values that stand in order or not, fewer than bins and more; where the places come out even, and where not.
func TestOfNumbers(t *testing.T) {
	ofEach(t, []cut{
		{[]float64{1, 2}, 2, []float64{2}},
		{[]float64{2, 1}, 2, []float64{2}},
		{[]float64{1, 2}, 3, []float64{2}},
		{[]float64{1, 2}, 255, []float64{2}},
		{[]float64{1, 2}, 256, []float64{2}},
		{[]float64{3, 1, 2}, 2, []float64{2}},
		{[]float64{3, 1, 2}, 3, []float64{2, 3}},
		{[]float64{3, 1, 2}, 4, []float64{2, 3}},
		{[]float64{3, 1, 2}, 255, []float64{2, 3}},
		{[]float64{4, 3, 2, 1}, 2, []float64{3}},
		{[]float64{4, 3, 2, 1}, 3, []float64{2, 3}},
		{[]float64{4, 3, 2, 1}, 4, []float64{2, 3, 4}},
		{[]float64{50, 40, 30, 20, 10}, 2, []float64{30}},
		{[]float64{50, 40, 30, 20, 10}, 3, []float64{20, 40}},
		{[]float64{50, 40, 30, 20, 10}, 4, []float64{20, 30, 40}},
		{[]float64{-1, -2, 0.5, 0.25, -3, 1e300, -1e300}, 3, []float64{-2, 0.25}},
		{numbers(0, 9), 3, []float64{3, 6}},
		{numbers(0, 10), 3, []float64{3, 7}},
		{numbers(0, 999), 3, []float64{333, 666}},
		{numbers(0, 99), 255, numbers(1, 99)},
		{numbers(0, 99), 256, numbers(1, 99)},
		{numbers(0, 253), 255, numbers(1, 253)},
		{numbers(0, 254), 255, numbers(1, 254)},
		{numbers(0, 254), 256, numbers(1, 254)},
		{numbers(0, 255), 255, numbers(1, 254)},
		{numbers(0, 255), 256, numbers(1, 255)},
		{numbers(0, 256), 256, numbers(1, 255)},
		{numbers(0, 509), 255, steps(2, 2, 254)},
		{numbers(0, 511), 256, steps(2, 2, 255)},
		{numbers(-768, -1), 256, steps(-765, 3, 255)},
	})
}

// P10.1: Of as many values as a column may have, each of which tells its own place.
func TestOfMany(t *testing.T) {
	const rows = 1 << 20
	l := mixed(rand.New(rand.NewSource(1)), numbers(0, rows-1))
	for _, bins := range []int{2, 3, 255, 256} {
		want := []float64{}
		for q := 1; q < bins; q++ {
			want = append(want, math.Floor(float64(q)*rows/float64(bins)))
		}
		of(t, l, bins, want)
	}
}

// P10.1: Of values with the same one often, at the front, in the middle, at the end, and where a place falls into them.
func TestOfOften(t *testing.T) {
	ofEach(t, []cut{
		{[]float64{1, 1, 1, 9}, 2, nil},
		{[]float64{1, 1, 1, 9}, 3, nil},
		{[]float64{1, 1, 1, 9}, 4, []float64{9}},
		{[]float64{1, 1, 9, 9}, 2, []float64{9}},
		{[]float64{1, 1, 9, 9}, 4, []float64{9}},
		{[]float64{1, 9, 9, 9}, 2, []float64{9}},
		{[]float64{1, 9, 9, 9}, 4, []float64{9}},
		{[]float64{1, 5, 5, 5, 9}, 2, []float64{5}},
		{[]float64{1, 5, 5, 5, 9}, 3, []float64{5}},
		{[]float64{1, 5, 5, 5, 9}, 5, []float64{5, 9}},
		{[]float64{1, 2, 3, 3, 3, 3, 8, 9}, 2, []float64{3}},
		{[]float64{1, 2, 3, 3, 3, 3, 8, 9}, 4, []float64{3, 8}},
		{[]float64{1, 2, 3, 3, 3, 3, 8, 9}, 8, []float64{2, 3, 8, 9}},
		{[]float64{1, 1, 1, 1, 2, 3, 4, 5}, 4, []float64{2, 4}},
		{[]float64{1, 1, 1, 1, 2, 3, 4, 5}, 8, []float64{2, 3, 4, 5}},
		{[]float64{1, 2, 3, 4, 5, 5, 5, 5}, 4, []float64{3, 5}},
		{[]float64{1, 1, 1, 4, 4, 4, 7, 7, 7}, 3, []float64{4, 7}},
		{[]float64{1, 1, 1, 4, 4, 4, 7, 7, 7}, 9, []float64{4, 7}},
		{join(often(0, 300), numbers(1, 10)), 2, nil},
		{join(often(0, 300), numbers(1, 10)), 256, []float64{1, 2, 3, 4, 6, 7, 8, 9}},
		{join(numbers(1, 300), often(400, 300)), 2, []float64{400}},
		{join(numbers(1, 3), often(50, 600), numbers(60, 62)), 255, []float64{3, 50, 60}},
		{join(numbers(1, 3), often(50, 600), numbers(60, 62)), 256, []float64{3, 50, 60}},
	})
}

// P10.1: Of values some of which are missing, of whatever bits: as if these weren't there.
func TestOfMissing(t *testing.T) {
	ofEach(t, []cut{
		{[]float64{nan, 2, nan, 7}, 2, []float64{7}},
		{[]float64{missing[3], 2, missing[5], 7, missing[8]}, 2, []float64{7}},
		{[]float64{2, 7, missing[1]}, 256, []float64{7}},
		{[]float64{missing[4], missing[6], 2}, 256, nil},
		{[]float64{nan, -inf, nan, inf}, 2, []float64{inf}},
		{join(missing, []float64{5, 1, 3, 1}, missing), 2, []float64{3}},
		{join(missing, numbers(0, 9)), 3, []float64{3, 6}},
		{join(numbers(0, 255), often(missing[7], 1000)), 255, numbers(1, 254)},
		{join(often(missing[2], 1000), numbers(0, 255)), 256, numbers(1, 255)},
	})
	r := rand.New(rand.NewSource(4))
	eachCut(5, func(l []float64, bins int) {
		want := Of(l, bins)
		of(t, mixed(r, join(l, missing[:r.Intn(len(missing)+1)])), bins, want)
	})
}

// P10.1: Of values at the ends of all numbers, and about 0: edges are clean.
func TestOfEnds(t *testing.T) {
	ofEach(t, []cut{
		{[]float64{inf, -inf}, 2, []float64{inf}},
		{[]float64{inf, -inf, 0}, 3, []float64{0, inf}},
		{[]float64{inf, -inf, 0, minus0}, 2, []float64{0}},
		{[]float64{-inf, -inf, inf, inf}, 4, []float64{inf}},
		{[]float64{-inf, -greatest, greatest, inf}, 4, []float64{-greatest, greatest, inf}},
		{[]float64{-inf, -greatest, -greatest, -1}, 256, []float64{-greatest, -1}},
		{[]float64{1, greatest, inf, inf}, 256, []float64{greatest, inf}},
		{[]float64{0, minus0}, 2, nil},
		{[]float64{minus0, 0}, 256, nil},
		{[]float64{-1, minus0}, 2, []float64{0}},
		{[]float64{-1, minus0, minus0, minus0}, 256, []float64{0}},
		{[]float64{-1, 0, minus0, 1}, 4, []float64{0, 1}},
		{[]float64{1, minus0, 0, -1}, 4, []float64{0, 1}},
		{[]float64{minus0, 1}, 2, []float64{1}},
		{[]float64{0, minus0, 1}, 3, []float64{1}},
		{[]float64{-tiny, minus0, tiny}, 3, []float64{0, tiny}},
		{[]float64{-tiny, 0, minus0, tiny, -inf, inf, nan}, 256, []float64{-tiny, 0, tiny, inf}},
	})
}

// P10.1: Of many lists of any values, held against edges that are told by another way.
func TestOfApart(t *testing.T) {
	eachCut(7, func(l []float64, bins int) {
		of(t, l, bins, cutAt(l, bins))
	})
}

// P10.1: edges are clean, in order, each behind the one ahead, and behind the first value; there are fewer than bins; and they are right.
func TestOfShape(t *testing.T) {
	eachCut(8, func(l []float64, bins int) {
		edges := Of(l, bins)
		if len(edges) >= bins || !Right(edges) {
			t.Fatalf("%d bins of %v: %v", bins, l, edges)
		}
		for i, edge := range edges {
			if edge != edge || edge == 0 && math.Signbit(edge) {
				t.Fatalf("%d bins of %v: %v isn't clean", bins, l, edge)
			}
			if i > 0 && !ahead(edges[i-1], edge) {
				t.Fatalf("%d bins of %v: %v isn't behind %v", bins, l, edge, edges[i-1])
			}
		}
		if len(edges) > 0 && !slices.ContainsFunc(l, func(f float64) bool { return f < edges[0] }) {
			t.Fatalf("%d bins of %v: %v isn't behind the first one", bins, l, edges[0])
		}
	})
}

// P10.1: Bin, of what is ahead of all edges, an edge, between two, behind all, at the ends, or missing.
func TestBinInOrder(t *testing.T) {
	edges := []float64{-1, 0, 5}
	for _, x := range []struct {
		f    float64
		want int
	}{
		{-inf, 1}, {-greatest, 1}, {-2, 1}, {math.Nextafter(-1, -2), 1},
		{-1, 2}, {math.Nextafter(-1, 0), 2}, {-0.5, 2}, {-tiny, 2},
		{minus0, 3}, {0, 3}, {tiny, 3}, {4.9, 3}, {math.Nextafter(5, 0), 3},
		{5, 4}, {math.Nextafter(5, 6), 4}, {greatest, 4}, {inf, 4},
	} {
		bin(t, edges, x.f, x.want)
	}
	bin(t, []float64{-inf, inf}, -inf, 2)
	bin(t, []float64{-inf, inf}, -greatest, 2)
	bin(t, []float64{-inf, inf}, greatest, 2)
	bin(t, []float64{-inf, inf}, inf, 3)
	bin(t, []float64{inf}, greatest, 1)
	for _, zero := range []float64{0, minus0} {
		for f, want := range map[float64]int{-tiny: 1, 0: 2, tiny: 2} {
			bin(t, []float64{zero}, f, want)
		}
		bin(t, []float64{zero}, minus0, 2)
	}
	many := numbers(1, 255)
	for f, want := range map[float64]int{0: 1, 1: 2, 1.5: 2, 128: 129, 254: 255, 254.5: 255, 255: 256, 256: 256} {
		bin(t, many, f, want)
	}
}

// P10.1: Bin of what is missing is 0, by whatever edges.
func TestBinMissing(t *testing.T) {
	for _, f := range missing {
		for _, edges := range [][]float64{nil, {}, {0}, {-1, 0, 5}, {5, -1}, {-inf, inf}, {2, 2}, {nan}, {nan, 1}, missing, numbers(0, 299)} {
			bin(t, edges, f, 0)
		}
	}
}

// P10.1: Bin by no edges: 1.
func TestBinNoEdges(t *testing.T) {
	for _, f := range []float64{-inf, -greatest, -1, minus0, 0, tiny, 3, greatest, inf} {
		bin(t, nil, f, 1)
		bin(t, []float64{}, f, 1)
	}
}

// P10.1: Bin by edges in another order, with the same one twice, with missing ones among them (which stand ahead of all), and more than may be.
func TestBinAnyEdges(t *testing.T) {
	for _, x := range []struct {
		edges []float64
		f     float64
		want  int
	}{
		{[]float64{5, -1, 0}, -2, 1},
		{[]float64{5, -1, 0}, -1, 2},
		{[]float64{5, -1, 0}, 0, 3},
		{[]float64{5, 0, -1}, 4, 3},
		{[]float64{5, 0, -1}, 5, 4},
		{[]float64{9, 1}, 5, 2},
		{[]float64{2, 2}, 1, 1},
		{[]float64{2, 2}, 2, 3},
		{[]float64{1, 2, 2, 3}, 1.5, 2},
		{[]float64{1, 2, 2, 3}, 2, 4},
		{[]float64{3, 2, 1, 2}, 2, 4},
		{[]float64{0, minus0}, -tiny, 1},
		{[]float64{0, minus0}, minus0, 3},
		{[]float64{inf, inf, -inf, -inf}, 0, 3},
		{[]float64{nan}, -inf, 2},
		{[]float64{nan, 1}, 0, 2},
		{[]float64{1, nan}, 0, 2},
		{[]float64{1, nan}, 1, 3},
		{[]float64{1, missing[8], 2, missing[4], 3}, 2, 5},
		{[]float64{1, missing[8], 2, missing[4], 3}, -inf, 3},
		{missing, 0, 1 + len(missing)},
		{missing, -inf, 1 + len(missing)},
		{numbers(0, 255), 255, 257},
		{numbers(1, 70000), 70000, 70001},
		{often(7, 70000), 7, 70001},
		{often(7, 70000), 6, 1},
	} {
		bin(t, x.edges, x.f, x.want)
	}
}

// P10.1: Bin by many lists of any edges, held against the language's own order of numbers.
func TestBinApart(t *testing.T) {
	r := rand.New(rand.NewSource(9))
	for range 400 {
		edges := anyValues(r, r.Intn(40))
		for _, f := range anyValues(r, 40) {
			want := 1
			for _, edge := range edges {
				if !ahead(f, edge) {
					want++
				}
			}
			if f != f {
				want = 0
			}
			bin(t, edges, f, want)
		}
	}
}

// sizes are how many edges there may be.
var sizes = []int{1, 2, 3, 128, 254, 255}

// P10.1: Right of none, and of as many as may be, in order.
func TestRight(t *testing.T) {
	right(t, nil, true)
	right(t, []float64{}, true)
	for _, n := range sizes {
		right(t, numbers(1, n), true)
		right(t, numbers(-n, -1), true)
		right(t, numbers(-n/2, n-n/2-1), true) // 0 among them
	}
	for _, f := range []float64{-inf, -greatest, -1, -tiny, 0, tiny, 1, greatest, inf} {
		right(t, []float64{f}, true)
	}
	right(t, []float64{-inf, -greatest, -1, -tiny, 0, tiny, 1, greatest, inf}, true)
	right(t, []float64{-inf, inf}, true)
}

// P10.1: Right of more than may be: no, with or without another fault.
func TestRightTooMany(t *testing.T) {
	for _, n := range []int{256, 257, 300, 1000} {
		right(t, numbers(1, n), false)
		right(t, numbers(-n, -1), false)
		right(t, often(0, n), false)
		right(t, often(nan, n), false)
		right(t, with(numbers(1, n), n-1, nan), false)
	}
}

// P10.1: Right of edges one of which is missing, or -0, at every place: no.
func TestRightNotClean(t *testing.T) {
	for _, n := range sizes {
		for place := range n {
			for _, f := range missing {
				right(t, with(numbers(1, n), place, f), false)
			}
			zero := numbers(-place, n-1-place) // 0 stands at this place
			right(t, zero, true)
			right(t, with(zero, place, minus0), false)
		}
	}
	right(t, missing, false)
	right(t, []float64{minus0, 0}, false)
	right(t, []float64{0, minus0}, false)
}

// P10.1: Right of edges two of which are the same, or stand the wrong way round, at every place: no.
func TestRightOrder(t *testing.T) {
	for _, n := range sizes {
		for place := range n - 1 {
			l := numbers(1, n)
			right(t, with(l, place, l[place+1]), false)
			right(t, with(l, place+1, l[place]), false)
			right(t, with(l, place, l[place+1], l[place]), false)
		}
	}
	for _, l := range [][]float64{
		{0, 0}, {inf, inf}, {-inf, -inf}, {inf, -inf}, {tiny, 0}, {0, -tiny}, {greatest, -greatest},
		{1, 3, 2}, {2, 1, 3}, {3, 1, 2}, {3, 2, 1}, {1, 2, 1}, {5, 6, 1, 2}, {1, 2, 3, 0}, {9, 1, 2, 3},
	} {
		right(t, l, false)
	}
}

// P10.1: Right of many lists, held against what the words ask, one by one.
func TestRightApart(t *testing.T) {
	r := rand.New(rand.NewSource(10))
	for range 3000 {
		l := anyValues(r, r.Intn(6))
		if r.Intn(2) == 0 {
			slices.Sort(l)
		}
		want := true
		for i, f := range l {
			if f != f || f == 0 && math.Signbit(f) || i > 0 && !ahead(l[i-1], f) {
				want = false
			}
		}
		right(t, l, want)
	}
}

// P10.2: each edge is a value, and ahead of it there is one.
func TestEdgesAreValues(t *testing.T) {
	eachCut(11, func(l []float64, bins int) {
		for _, edge := range Of(l, bins) {
			if !slices.Contains(l, edge) {
				t.Fatalf("%d bins of %v: the edge %v is no value", bins, l, edge)
			}
			if !slices.ContainsFunc(l, func(f float64) bool { return f < edge }) {
				t.Fatalf("%d bins of %v: there is nothing ahead of %v", bins, l, edge)
			}
		}
	})
}

// filled is how many of the values are in each bin, by their own edges; it looks that there is no bin beyond.
func filled(t *testing.T, l []float64, bins int) []int {
	t.Helper()
	edges := Of(l, bins)
	count := make([]int, len(edges)+2)
	for _, f := range l {
		b := Bin(edges, f)
		if b < 0 || b >= len(count) || b > bins {
			t.Fatalf("%d bins of %v: %v is in %d", bins, l, f, b)
		}
		count[b]++
	}
	return count
}

// P10.2: of unlike values no bin has more than n divided by bins, rounded up; and there are as many bins as may be.
func TestBinsOfUnlike(t *testing.T) {
	r := rand.New(rand.NewSource(12))
	for _, bins := range manyBins {
		for _, n := range []int{1, 2, 3, 4, 5, 7, 30, 99, 253, 254, 255, 256, 257, 300, 511, 512, 513, 1000} {
			l := mixed(r, join(numbers(-n/3, n-n/3-1), missing[:r.Intn(len(missing)+1)]))
			count := filled(t, l, bins)
			if len(count)-1 != min(n, bins) {
				t.Errorf("%d bins of %d unlike values: %d", bins, n, len(count)-1)
			}
			if most := (n + bins - 1) / bins; slices.Max(count[1:]) > most {
				t.Errorf("%d bins of %d unlike values: %v, above %d", bins, n, count[1:], most)
			}
		}
	}
}

// P10.2: no bin is empty, but that of what is missing, in which is just that.
func TestNoBinIsEmpty(t *testing.T) {
	eachCut(13, func(l []float64, bins int) {
		gaps := 0
		for _, f := range l {
			if f != f {
				gaps++
			}
		}
		count := filled(t, l, bins)
		if count[0] != gaps {
			t.Fatalf("%d bins of %v: %d are missing, not %d", bins, l, count[0], gaps)
		}
		if gaps < len(l) && slices.Contains(count[1:], 0) {
			t.Fatalf("%d bins of %v: %v", bins, l, count)
		}
	})
}
