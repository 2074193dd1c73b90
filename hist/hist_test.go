package hist

import (
	"math"
	"math/big"
	"math/rand"
	"slices"
	"testing"

	"hornbeam/api"
)

const (
	top    = math.MaxInt64
	bottom = math.MinInt64
)

// mark is what stands behind lists that are handed in, spoilt what is written into lists that were answered, or that were handed in before.
const (
	mark   = 424242
	spoilt = -12345
)

// edges are numbers at which sums and products go wrong first.
var edges = []int64{0, 1, -1, 2, -2, 5, -7, top, top - 1, top - 2, bottom, bottom + 1, bottom + 2, 1 << 62, -1 << 62, 1<<62 + 1, 1 << 32, -1 << 32, 1 << 31, 1<<31 - 1, 3037000499, 3037000500, -3037000500}

// extremes are numbers at which counting goes wrong first.
var extremes = []int{math.MinInt, math.MinInt + 1, math.MaxInt, math.MaxInt - 1, 1 << 32, -1 << 32, 1<<32 + 1, 1 << 62}

// The numbers of bins and classes, and kinds, that there are, and such as are none.
var (
	rightKinds, wrongKinds     = []int{api.Classes, api.Means}, []int{-1, 2, 256}
	rightBins, wrongBins       = []int{1, 2, 3, 128, 256, 257}, []int{-1, 0, 258, 259, 512}
	rightClasses, wrongClasses = []int{2, 3, 4, 255, 256}, []int{-1, 0, 1, 257, 258, 512}
)

// form is a histogram's kind, bins and classes, and how many counts and moments it has.
type form struct{ kind, bins, classes, counts, moments int }

// manyCounts and manyMoments are as many as any form has; forms have pieces of them, which nobody writes into.
var (
	manyCounts  = make([]int64, 70000)
	manyMoments = make([]api.Moment, 70000)
)

func (f form) hist() api.Hist {
	return api.Hist{Kind: f.kind, Bins: f.bins, Classes: f.classes, Counts: manyCounts[:f.counts], Moments: manyMoments[:f.moments]}
}

// rightForms are forms of histograms that are right.
func rightForms() []form {
	l := []form{}
	for _, bins := range rightBins {
		l = append(l, form{api.Means, bins, 0, 0, bins})
		for _, classes := range rightClasses {
			l = append(l, form{api.Classes, bins, classes, bins * classes, 0})
		}
	}
	return l
}

// wrongCores are kinds, bins and classes of which there is no right histogram.
func wrongCores() []form {
	right := map[form]bool{}
	for _, f := range rightForms() {
		right[form{f.kind, f.bins, f.classes, 0, 0}] = true
	}
	l := []form{}
	for _, kind := range slices.Concat(rightKinds, wrongKinds, extremes) {
		for _, bins := range slices.Concat(rightBins, wrongBins, extremes) {
			for _, classes := range slices.Concat(rightClasses, wrongClasses, extremes) {
				if f := (form{kind, bins, classes, 0, 0}); !right[f] {
					l = append(l, f)
				}
			}
		}
	}
	return l
}

// asMany is a number, if there may be so many of a thing here; else 0.
func asMany(n int) int {
	if n < 0 || n > len(manyCounts) {
		return 0
	}
	return n
}

// wrongForms are forms of histograms that aren't right: of each wrong core such as have what would fit, and of each right form such as have more or fewer.
func wrongForms() []form {
	l := []form{}
	for _, f := range wrongCores() {
		counts, moments := asMany(f.bins*f.classes), asMany(f.bins) // a product that goes round may be none
		l = append(l, f, form{f.kind, f.bins, f.classes, counts, 0}, form{f.kind, f.bins, f.classes, 0, moments}, form{f.kind, f.bins, f.classes, counts, moments})
	}
	for _, f := range rightForms() {
		l = append(l, form{f.kind, f.bins, f.classes, 0, 0}, form{f.kind, f.bins, f.classes, f.counts + 1, f.moments}, form{f.kind, f.bins, f.classes, f.counts, f.moments + 1})
		l = append(l, form{f.kind, f.bins, f.classes, f.moments, f.counts}, form{f.kind, f.bins, f.classes, f.counts + f.moments, f.counts + f.moments})
		if f.kind == api.Means {
			l = append(l, form{f.kind, f.bins, 0, 0, f.bins - 1}, form{f.kind, f.bins, 0, f.bins, f.bins})
		} else {
			l = append(l, form{f.kind, f.bins, f.classes, f.counts - 1, 0}, form{f.kind, f.bins, f.classes, f.counts, f.bins})
		}
	}
	return l
}

// number is one of a histogram's numbers; only sums may be below 0 when something is left.
type number struct {
	at    *int64
	below bool
}

// numbers are a histogram's numbers, in the order in which they are gone through.
func numbers(h api.Hist) []number {
	l := []number{}
	for i := range h.Counts {
		l = append(l, number{&h.Counts[i], false})
	}
	for i := range h.Moments {
		m := &h.Moments[i]
		l = append(l, number{&m.Count, false}, number{&m.Sum, true}, number{&m.Square, false})
	}
	return l
}

// zeros is a histogram of zeros, made without New.
func zeros(kind, bins, classes int) api.Hist {
	h := api.Hist{Kind: kind, Bins: bins, Classes: classes}
	if kind == api.Means {
		h.Moments = make([]api.Moment, bins)
	} else {
		h.Counts = make([]int64, bins*classes)
	}
	return h
}

// of is a histogram of these numbers, of so many bins.
func of(kind, bins int, values ...int64) api.Hist {
	classes := 0
	if kind == api.Classes {
		classes = len(values) / bins
	}
	h := zeros(kind, bins, classes)
	for i, n := range numbers(h) {
		*n.at = values[i]
	}
	return h
}

// drawn is a histogram of such numbers as pick draws.
func drawn(kind, bins, classes int, pick func() int64) api.Hist {
	h := zeros(kind, bins, classes)
	for _, n := range numbers(h) {
		*n.at = pick()
	}
	return h
}

// anyForm is a drawn kind, with so many bins at most, and few classes.
func anyForm(r *rand.Rand, bins int) form {
	f := form{kind: r.Intn(2), bins: 1 + r.Intn(bins)}
	if f.kind == api.Classes {
		f.classes = 2 + r.Intn(3)
	}
	return f
}

// seldomGreat draws numbers of which about one in so many may be great, and the others stand behind the least one.
func seldomGreat(r *rand.Rand, often int, least int64) func() int64 {
	return func() int64 {
		if r.Intn(often) == 0 {
			return edges[r.Intn(len(edges))]
		}
		return least + int64(r.Intn(40))
	}
}

func same(a, b api.Hist) bool {
	return a.Kind == b.Kind && a.Bins == b.Bins && a.Classes == b.Classes && slices.Equal(a.Counts, b.Counts) && slices.Equal(a.Moments, b.Moments)
}

func clone(h api.Hist) api.Hist {
	h.Counts, h.Moments = slices.Clone(h.Counts), slices.Clone(h.Moments)
	return h
}

// roomy is the list, with room behind it that is written on, into which who appends would write.
func roomy[T any](l []T, mark T) []T { return append(slices.Clone(l), mark, mark)[:len(l)] }

// spoil writes into a list, and into the room behind it.
func spoil[T any](l []T, mark T) {
	l = l[:cap(l)]
	for i := range l {
		l[i] = mark
	}
}

// roomyHist is a histogram with lists of its own that are roomy.
func roomyHist(h api.Hist) api.Hist {
	h.Counts, h.Moments = roomy(h.Counts, mark), roomy(h.Moments, api.Moment{Count: mark, Sum: mark, Square: mark})
	return h
}

// wholeHist is a copy of one that is roomy, with what stands behind its lists.
func wholeHist(h api.Hist) api.Hist {
	h.Counts, h.Moments = h.Counts[:len(h.Counts)+2], h.Moments[:len(h.Moments)+2]
	return clone(h)
}

// spoilHist writes into all that a histogram's lists have.
func spoilHist(h api.Hist) {
	spoil(h.Counts, spoilt)
	spoil(h.Moments, api.Moment{Count: spoilt, Sum: spoilt, Square: spoilt})
}

// two is Merge or Less.
type two func(a, b api.Hist) (api.Hist, api.Errno)

// twoIs holds what Merge or Less answers, and that it shares no memory with what is handed in, nor with another answer, and that what is handed in stays as it was.
func twoIs(t *testing.T, call two, a, b, want api.Hist, wantErr api.Errno) {
	t.Helper()
	a, b = roomyHist(a), roomyHist(b)
	wasA, wasB := wholeHist(a), wholeHist(b)
	h, e := call(a, b)
	again, _ := call(a, b)
	if !same(h, want) || e != wantErr {
		t.Fatalf("%v and %v: %v %v, not %v %v", a, b, h, e, want, wantErr)
	}
	spoilHist(h)
	if !same(wholeHist(a), wasA) || !same(wholeHist(b), wasB) {
		t.Fatalf("written into: %v, %v", a, b)
	}
	spoilHist(a)
	spoilHist(b)
	if !same(again, want) {
		t.Fatalf("what was answered became %v, not %v", again, want)
	}
}

// sumIs holds what Sum answers, of the kind Classes the counts, else the moment's numbers, and that it shares no memory.
func sumIs(t *testing.T, h api.Hist, from, to int, want []int64, wantErr api.Errno) {
	t.Helper()
	h = roomyHist(h)
	was := wholeHist(h)
	counts, all, e := Sum(h, from, to)
	again, _, _ := Sum(h, from, to)
	wantCounts, wantAll := want, api.Moment{}
	if h.Kind == api.Means && wantErr == api.OK {
		wantCounts, wantAll = nil, api.Moment{Count: want[0], Sum: want[1], Square: want[2]}
	}
	if !slices.Equal(counts, wantCounts) || all != wantAll || e != wantErr {
		t.Fatalf("%v from %d to %d: %v %v %v, not %v %v", h, from, to, counts, all, e, want, wantErr)
	}
	spoil(counts, spoilt)
	if !same(wholeHist(h), was) {
		t.Fatalf("Sum wrote into %v", h)
	}
	spoilHist(h)
	if !slices.Equal(again, wantCounts) {
		t.Fatalf("what was answered became %v, not %v", again, want)
	}
}

// addIs holds what becomes of a histogram when something is added to it: all of its numbers, and what stands behind its lists.
func addIs(t *testing.T, h api.Hist, bin int, target int64, weight int, want api.Hist, wantErr api.Errno) {
	t.Helper()
	h = roomyHist(h)
	if e := Add(&h, bin, target, weight); e != wantErr || !same(h, want) || !same(wholeHist(h), wholeHist(roomyHist(want))) {
		t.Fatalf("%d with the weight %d in bin %d: %v %v, not %v %v", target, weight, bin, h, e, want, wantErr)
	}
}

// told is what two are together, or what is left of one without the other one, number by number, told by great numbers.
func told(a, b api.Hist, less bool) (api.Hist, api.Errno) {
	h := clone(a)
	others := numbers(b)
	for i, n := range numbers(h) {
		x, y := big.NewInt(*n.at), big.NewInt(*others[i].at)
		if less {
			y.Neg(y)
		}
		if x.Add(x, y); !x.IsInt64() {
			return api.Hist{}, api.ErrOver
		}
		if less && !n.below && x.Sign() < 0 {
			return api.Hist{}, api.ErrRange
		}
		*n.at = x.Int64()
	}
	return h, api.OK
}

// toldSum is what bins come to, number by number, told by great numbers.
func toldSum(h api.Hist, from, to int) ([]int64, api.Errno) {
	all := numbers(h)
	width := len(all) / h.Bins
	sums := make([]int64, width)
	for i, n := range all {
		if i/width < from || i/width >= to {
			continue
		}
		x := big.NewInt(sums[i%width])
		if x.Add(x, big.NewInt(*n.at)); !x.IsInt64() {
			return nil, api.ErrOver
		}
		sums[i%width] = x.Int64()
	}
	return sums, api.OK
}

// toldAdd is what a histogram becomes when targets are added to a bin that there is, told by great numbers.
func toldAdd(h api.Hist, bin int, target int64, weight int) (api.Hist, api.Errno) {
	n := big.NewInt(int64(weight))
	more, first := []*big.Int{n}, bin*h.Classes+int(target)
	if h.Kind == api.Means {
		sum := new(big.Int).Mul(n, big.NewInt(target))
		more, first = append(more, sum, new(big.Int).Mul(sum, big.NewInt(target))), 3*bin
	}
	after := clone(h)
	all := numbers(after)
	for i, x := range more {
		y := new(big.Int).Add(x, big.NewInt(*all[first+i].at))
		if !x.IsInt64() || !y.IsInt64() {
			return h, api.ErrOver
		}
		*all[first+i].at = y.Int64()
	}
	return after, api.OK
}

// P12.1: New's histogram is of zeros, and right, and new each time.
func TestNewOfRightForms(t *testing.T) {
	for _, f := range rightForms() {
		h, e := New(f.kind, f.bins, f.classes)
		again, _ := New(f.kind, f.bins, f.classes)
		if want := zeros(f.kind, f.bins, f.classes); !same(h, want) || e != api.OK || !Right(h) {
			t.Fatalf("%+v: %v", f, e)
		}
		spoilHist(h)
		if !same(again, zeros(f.kind, f.bins, f.classes)) {
			t.Fatalf("%+v: what was answered was written into", f)
		}
	}
}

// P12.1: New of a kind, bins or classes that none has.
func TestNewOfWrongForms(t *testing.T) {
	for _, f := range wrongCores() {
		if h, e := New(f.kind, f.bins, f.classes); !same(h, api.Hist{}) || e != api.ErrArg {
			t.Fatalf("%+v: %v %v", f, h, e)
		}
	}
}

// P12.1: those that are right, whatever their numbers are.
func TestRight(t *testing.T) {
	for _, f := range rightForms() {
		if !Right(f.hist()) {
			t.Fatalf("%+v isn't right", f)
		}
	}
	for _, n := range edges {
		if !Right(of(api.Classes, 1, n, n)) || !Right(of(api.Means, 1, n, n, n)) {
			t.Fatalf("of %d none is right", n)
		}
	}
	if !Right(api.Hist{Kind: api.Means, Bins: 1, Counts: []int64{}, Moments: []api.Moment{{}}}) || !Right(api.Hist{Bins: 1, Classes: 2, Counts: []int64{0, 0}, Moments: []api.Moment{}}) {
		t.Fatal("an empty list isn't as none")
	}
}

// P12.1: those that aren't right: Right tells it, and all others tell ErrShape, whatever else is wrong, and do nothing.
func TestWrongForms(t *testing.T) {
	good := []api.Hist{of(api.Classes, 1, 3, 4), of(api.Means, 1, 3, 4, 5)}
	for _, f := range wrongForms() {
		h := f.hist()
		if Right(h) {
			t.Fatalf("%+v is right", f)
		}
		for _, bin := range []int{0, -1, math.MinInt, math.MaxInt, f.bins} {
			if e := Add(&h, bin, int64(bin), 1); e != api.ErrShape {
				t.Fatalf("added to %+v in bin %d: %v", f, bin, e)
			}
			counts, all, e := Sum(h, bin, 0)
			if len(counts) > 0 || all != (api.Moment{}) || e != api.ErrShape {
				t.Fatalf("the sum of %+v from %d: %v %v %v", f, bin, counts, all, e)
			}
		}
		if e := Add(&h, 0, -1, -1); e != api.ErrShape {
			t.Fatalf("added to %+v: %v", f, e)
		}
		for _, g := range append(good, h) {
			wrongTwo(t, g, h)
			wrongTwo(t, h, g)
		}
	}
	if slices.ContainsFunc(manyCounts, func(n int64) bool { return n != 0 }) || slices.ContainsFunc(manyMoments, func(m api.Moment) bool { return m != api.Moment{} }) {
		t.Fatal("something was written")
	}
}

// wrongTwo looks that neither Merge nor Less have an answer.
func wrongTwo(t *testing.T, a, b api.Hist) {
	t.Helper()
	for i, call := range []two{Merge, Less} {
		if h, e := call(a, b); !same(h, api.Hist{}) || e != api.ErrShape {
			t.Fatalf("call %d of %d %d %d and %d %d %d: %v %v", i, a.Kind, a.Bins, a.Classes, b.Kind, b.Bins, b.Classes, h, e)
		}
	}
}

// P12.1: Merge and Less of those that are right, but of unlike kinds, bins or classes (some with as many counts), and of like ones.
func TestUnlike(t *testing.T) {
	for i, f := range rightForms() {
		for j, g := range rightForms() {
			if i != j {
				wrongTwo(t, f.hist(), g.hist())
				continue
			}
			twoIs(t, Merge, f.hist(), f.hist(), f.hist(), api.OK)
			twoIs(t, Less, f.hist(), f.hist(), f.hist(), api.OK)
		}
	}
}

// P12.1: Add to none.
func TestAddToNone(t *testing.T) {
	for _, n := range append(extremes, 0, 1, -1) {
		for _, weight := range []int{-1, 0, 1} {
			if e := Add(nil, n, int64(n), weight); e != api.ErrShape {
				t.Fatalf("%d with the weight %d: %v", n, weight, e)
			}
		}
	}
}

// P12.1: the chapter's example.
func TestExample(t *testing.T) {
	h, _ := New(api.Means, 2, 0)
	addIs(t, h, 1, 3, 2, of(api.Means, 2, 0, 0, 0, 2, 6, 18), api.OK)
	addIs(t, h, 1, -3, 2, of(api.Means, 2, 0, 0, 0, 2, -6, 18), api.OK)
}

// P12.1: Add reaches each bin and each class there is, and that alone.
func TestAddEverywhere(t *testing.T) {
	for _, f := range rightForms() {
		h, want := zeros(f.kind, f.bins, f.classes), zeros(f.kind, f.bins, f.classes)
		places := max(f.counts, f.moments)
		for place := range places {
			n := place + 1
			if f.kind == api.Means {
				want.Moments[place] = api.Moment{Count: int64(n), Sum: int64(-2 * n), Square: int64(4 * n)}
			} else {
				want.Counts[place] = int64(n)
			}
			bin, target := place, int64(-2)
			if f.kind == api.Classes {
				bin, target = place/f.classes, int64(place%f.classes)
			}
			if e := Add(&h, bin, target, n); e != api.OK {
				t.Fatalf("%+v: bin %d, class %d: %v", f, bin, target, e)
			}
			if (places < 1000 || place == places-1) && !same(h, want) {
				t.Fatalf("%+v: bin %d, class %d: %v, not %v", f, bin, target, h, want)
			}
		}
	}
}

// P12.1: Add to bins and of classes that there aren't, ahead of weights below 0, which are ahead of what goes beyond.
func TestAddWrong(t *testing.T) {
	for _, f := range rightForms() {
		if f.bins > 3 && f.bins < 257 {
			continue
		}
		h := drawn(f.kind, f.bins, f.classes, func() int64 { return top })
		for _, bin := range append([]int{-1, -2, -f.bins, f.bins, f.bins + 1, 2 * f.bins, 256 * f.bins}, extremes...) {
			for _, target := range []int64{0, 1, -1, top} {
				addIs(t, h, bin, target, 1, h, api.ErrRange)
				addIs(t, h, bin, target, -1, h, api.ErrRange)
			}
		}
		for _, weight := range []int{-1, -2, math.MinInt, math.MinInt + 1, -1 << 32} {
			addIs(t, h, f.bins-1, 1, weight, h, api.ErrArg)
			addIs(t, h, 0, 0, weight, h, api.ErrArg)
		}
		addIs(t, h, 0, 1, 1, h, api.ErrOver)
		addIs(t, h, f.bins-1, 0, math.MaxInt, h, api.ErrOver)
		addIs(t, h, f.bins/2, 0, 0, h, api.OK)
	}
}

// P12.1: Add of classes that there aren't, though the place that they would have is there.
func TestAddWrongClasses(t *testing.T) {
	for _, f := range rightForms() {
		if f.kind == api.Means || f.bins > 3 {
			continue
		}
		h := drawn(f.kind, f.bins, f.classes, func() int64 { return bottom })
		n := int64(f.classes)
		for _, target := range []int64{-1, -2, -n, n, n + 1, 2*n - 1, 1 << 32, -1 << 32, 1<<32 + 1, top, top - 1, bottom, bottom + 1} {
			for bin := range f.bins {
				addIs(t, h, bin, target, 1, h, api.ErrRange)
				addIs(t, h, bin, target, 0, h, api.ErrRange)
				addIs(t, h, bin, target, -1, h, api.ErrRange)
			}
		}
		addIs(t, h, f.bins-1, n-1, -1, h, api.ErrArg) // ahead of a count that goes beyond below
	}
}

// P12.1: counts that just stay within 64 bits, and that go beyond.
func TestAddCounts(t *testing.T) {
	for _, x := range []struct {
		was    int64
		weight int
		want   api.Errno
	}{
		{0, 0, api.OK}, {0, 1, api.OK}, {0, top, api.OK}, {1, top - 1, api.OK}, {1, top, api.ErrOver}, {2, top, api.ErrOver}, {top, top, api.ErrOver},
		{top, 0, api.OK}, {top, 1, api.ErrOver}, {top - 1, 1, api.OK}, {top - 1, 2, api.ErrOver},
		{-1, top, api.OK}, {bottom, top, api.OK}, {bottom, 0, api.OK}, {-5, 3, api.OK}, {1 << 62, 1<<62 - 1, api.OK}, {1 << 62, 1 << 62, api.ErrOver},
	} {
		classes, means := of(api.Classes, 2, 7, 8, 9, x.was, 10, 11), of(api.Means, 2, 7, 8, 9, x.was, 10, 11)
		classesAfter, meansAfter := classes, means
		if x.want == api.OK {
			sum := x.was + int64(x.weight)
			classesAfter, meansAfter = of(api.Classes, 2, 7, 8, 9, sum, 10, 11), of(api.Means, 2, 7, 8, 9, sum, 10, 11)
		}
		addIs(t, classes, 1, 0, x.weight, classesAfter, x.want)
		addIs(t, means, 1, 0, x.weight, meansAfter, x.want)
	}
}

// P12.1: of the kind Means each product and each new number that just stays within 64 bits, and that goes beyond, each by itself.
func TestAddMoments(t *testing.T) {
	for _, x := range []struct {
		was    [3]int64
		target int64
		weight int
		want   api.Errno
	}{
		{[3]int64{0, 0, 0}, top, 0, api.OK}, {[3]int64{0, 0, 0}, bottom, 0, api.OK}, {[3]int64{1, 2, 3}, 0, 0, api.OK},
		// target times weight; where it goes round, it would come to 0, or below the square's end
		{[3]int64{0, 0, 0}, 1, top, api.OK}, {[3]int64{0, 0, 0}, -1, top, api.OK},
		{[3]int64{0, 0, 0}, 1 << 32, 1 << 32, api.ErrOver}, {[3]int64{0, 0, 0}, -1 << 32, 1 << 32, api.ErrOver}, {[3]int64{0, 0, 0}, 2, 1 << 62, api.ErrOver},
		{[3]int64{0, 0, 0}, bottom, 2, api.ErrOver}, {[3]int64{0, 0, 0}, 1 << 62, 4, api.ErrOver}, {[3]int64{0, 0, 0}, top, top, api.ErrOver}, {[3]int64{0, 0, 0}, bottom, top, api.ErrOver},
		// target times that
		{[3]int64{0, 0, 0}, 3037000499, 1, api.OK}, {[3]int64{0, 0, 0}, -3037000499, 1, api.OK}, {[3]int64{0, 0, 0}, 3037000500, 1, api.ErrOver}, {[3]int64{0, 0, 0}, -3037000500, 1, api.ErrOver},
		{[3]int64{0, 0, 0}, 1 << 32, 1, api.ErrOver}, {[3]int64{0, 0, 0}, bottom, 1, api.ErrOver}, {[3]int64{0, 0, 0}, top, 1, api.ErrOver}, {[3]int64{0, 0, 0}, -1 << 62, 2, api.ErrOver},
		{[3]int64{0, 0, 0}, 2, 1<<61 - 1, api.OK}, {[3]int64{0, 0, 0}, -2, 1<<61 - 1, api.OK}, {[3]int64{0, 0, 0}, 2, 1 << 61, api.ErrOver}, {[3]int64{0, 0, 0}, -2, 1 << 61, api.ErrOver},
		{[3]int64{0, 0, bottom}, 2, 1 << 61, api.ErrOver}, {[3]int64{0, 0, -5}, 3037000500, 1, api.ErrOver}, // though the new square would be within
		// a new sum, above and below
		{[3]int64{0, top - 6, 0}, 3, 2, api.OK}, {[3]int64{0, top - 5, 0}, 3, 2, api.ErrOver}, {[3]int64{0, top, 0}, 1, 1, api.ErrOver}, {[3]int64{0, top, 0}, -1, 1, api.OK},
		{[3]int64{0, bottom + 6, 0}, -3, 2, api.OK}, {[3]int64{0, bottom + 5, 0}, -3, 2, api.ErrOver}, {[3]int64{0, bottom, 0}, -1, 1, api.ErrOver}, {[3]int64{0, bottom, 0}, 1, 1, api.OK},
		// a new square
		{[3]int64{0, 0, top - 18}, 3, 2, api.OK}, {[3]int64{0, 0, top - 17}, 3, 2, api.ErrOver}, {[3]int64{0, 0, top - 18}, -3, 2, api.OK}, {[3]int64{0, 0, top - 17}, -3, 2, api.ErrOver},
		{[3]int64{0, 0, top}, 1, 1, api.ErrOver}, {[3]int64{0, 0, bottom}, 3037000499, 1, api.OK}, {[3]int64{0, 0, -18}, 3, 2, api.OK},
		// a new count, and several
		{[3]int64{top - 2, 0, 0}, 3, 2, api.OK}, {[3]int64{top - 1, 0, 0}, 3, 2, api.ErrOver}, {[3]int64{top, top, top}, 1, 1, api.ErrOver}, {[3]int64{top, top, top}, 5, 0, api.OK},
	} {
		w := int64(x.weight)
		h := of(api.Means, 3, 7, 8, 9, x.was[0], x.was[1], x.was[2], 10, 11, 12)
		after := h
		if x.want == api.OK {
			after = of(api.Means, 3, 7, 8, 9, x.was[0]+w, x.was[1]+w*x.target, x.was[2]+w*x.target*x.target, 10, 11, 12)
		}
		addIs(t, h, 1, x.target, x.weight, after, x.want)
	}
}

// P12.1: Add of many numbers, great and small, held against what great numbers tell.
func TestAddTold(t *testing.T) {
	r := rand.New(rand.NewSource(12))
	pick := func() int64 { return edges[r.Intn(len(edges))] + int64(r.Intn(3)-1) }
	for range 60000 {
		f := anyForm(r, 4)
		target := pick()
		if r.Intn(2) == 0 {
			target = int64(r.Intn(41) - 20)
		}
		if f.kind == api.Classes {
			target = int64(r.Intn(f.classes))
		}
		h := drawn(f.kind, f.bins, f.classes, pick)
		if r.Intn(2) == 0 {
			h = drawn(f.kind, f.bins, f.classes, func() int64 { return int64(r.Intn(100)) })
		}
		bin, weight := r.Intn(f.bins), int(max(pick(), 0))
		want, wantErr := toldAdd(h, bin, target, weight)
		addIs(t, h, bin, target, weight, want, wantErr)
	}
}

// P12.1: Merge and Less of ordinary ones.
func TestTwo(t *testing.T) {
	a, b := of(api.Classes, 2, 5, 6, 7, 8), of(api.Classes, 2, 1, 6, 0, 3)
	twoIs(t, Merge, a, b, of(api.Classes, 2, 6, 12, 7, 11), api.OK)
	twoIs(t, Less, a, b, of(api.Classes, 2, 4, 0, 7, 5), api.OK)
	twoIs(t, Less, b, a, api.Hist{}, api.ErrRange)
	a, b = of(api.Means, 2, 5, 6, 7, 8, -9, 10), of(api.Means, 2, 5, -6, 7, 3, 2, 1)
	twoIs(t, Merge, a, b, of(api.Means, 2, 10, 0, 14, 11, -7, 11), api.OK)
	twoIs(t, Less, a, b, of(api.Means, 2, 0, 12, 0, 5, -11, 9), api.OK)
	twoIs(t, Less, b, a, api.Hist{}, api.ErrRange)
}

// pair is a number of one, of the other one, and what Merge and Less tell of them, where the number may be below 0, and where it may not.
type pair struct {
	a, b              int64
	merge, sum, other api.Errno
}

// pairs are such as just stay within, and such as go beyond, above and below, or are below 0.
var pairs = []pair{
	{0, 0, api.OK, api.OK, api.OK}, {3, 3, api.OK, api.OK, api.OK}, {3, 4, api.OK, api.OK, api.ErrRange}, {0, 1, api.OK, api.OK, api.ErrRange}, {1, 0, api.OK, api.OK, api.OK},
	{top, 0, api.OK, api.OK, api.OK}, {top, 1, api.ErrOver, api.OK, api.OK}, {top - 1, 1, api.OK, api.OK, api.OK}, {top, -1, api.OK, api.ErrOver, api.ErrOver}, {top - 1, -1, api.OK, api.OK, api.OK},
	{top, top, api.ErrOver, api.OK, api.OK}, {top - 1, top, api.ErrOver, api.OK, api.ErrRange}, {1, top, api.ErrOver, api.OK, api.ErrRange}, {0, top, api.OK, api.OK, api.ErrRange}, {-1, top, api.OK, api.OK, api.ErrRange}, {-2, top, api.OK, api.ErrOver, api.ErrOver},
	{bottom, 0, api.OK, api.OK, api.ErrRange}, {bottom, 1, api.OK, api.ErrOver, api.ErrOver}, {bottom + 1, 1, api.OK, api.OK, api.ErrRange}, {bottom, -1, api.ErrOver, api.OK, api.ErrRange}, {bottom + 1, -1, api.OK, api.OK, api.ErrRange},
	{bottom, bottom, api.ErrOver, api.OK, api.OK}, {0, bottom, api.OK, api.ErrOver, api.ErrOver}, {-1, bottom, api.ErrOver, api.OK, api.OK}, {top, bottom, api.OK, api.ErrOver, api.ErrOver}, {bottom, top, api.OK, api.ErrOver, api.ErrOver},
	{-5, -5, api.OK, api.OK, api.OK}, {-6, -5, api.OK, api.OK, api.ErrRange}, {-5, -6, api.OK, api.OK, api.OK}, {1 << 62, 1 << 62, api.ErrOver, api.OK, api.OK}, {1 << 62, -1 << 62, api.OK, api.ErrOver, api.ErrOver}, {-1 << 62, -1 << 62, api.OK, api.OK, api.OK},
}

// P12.1: each number of each bin, by itself, that just stays within and that goes beyond, and that is left.
func TestEachNumber(t *testing.T) {
	for _, f := range []form{{api.Classes, 1, 2, 2, 0}, {api.Classes, 3, 3, 9, 0}, {api.Classes, 40, 2, 80, 0}, {api.Classes, 2, 40, 80, 0}, {api.Means, 1, 0, 0, 1}, {api.Means, 30, 0, 0, 30}} {
		a, b := drawn(f.kind, f.bins, f.classes, func() int64 { return 5 }), drawn(f.kind, f.bins, f.classes, func() int64 { return 3 })
		for i, n := range numbers(a) {
			m := numbers(b)[i]
			for _, p := range pairs {
				*n.at, *m.at = p.a, p.b
				left := p.other
				if n.below {
					left = p.sum
				}
				merged, e := told(a, b, false)
				if e != p.merge {
					t.Fatalf("%d and %d: %v", p.a, p.b, e)
				}
				twoIs(t, Merge, a, b, merged, p.merge)
				rest, e := told(a, b, true)
				if e != left {
					t.Fatalf("%d less %d: %v", p.a, p.b, e)
				}
				twoIs(t, Less, a, b, rest, left)
			}
			*n.at, *m.at = 5, 3
		}
	}
}

// P12.1: where several numbers are wrong, the first one's error is told, ErrOver ahead of ErrRange of the same number alone.
func TestWhichError(t *testing.T) {
	over, below := [2]int64{bottom, 1}, [2]int64{3, 4}
	for i, x := range []struct {
		kind int
		bad  map[int][2]int64 // by the number's place
		want api.Errno
	}{
		{api.Means, map[int][2]int64{0: over}, api.ErrOver}, // it is below 0 as well
		{api.Means, map[int][2]int64{1: over}, api.ErrOver},
		{api.Means, map[int][2]int64{2: over}, api.ErrOver},
		{api.Means, map[int][2]int64{0: below, 1: over}, api.ErrRange},
		{api.Means, map[int][2]int64{0: below, 2: over}, api.ErrRange},
		{api.Means, map[int][2]int64{0: over, 2: below}, api.ErrOver},
		{api.Means, map[int][2]int64{1: over, 2: below}, api.ErrOver},
		{api.Means, map[int][2]int64{1: below, 2: over}, api.ErrOver},
		{api.Means, map[int][2]int64{1: below, 2: below}, api.ErrRange},
		{api.Means, map[int][2]int64{2: below, 3: over}, api.ErrRange},
		{api.Means, map[int][2]int64{2: over, 3: below}, api.ErrOver},
		{api.Means, map[int][2]int64{0: below, 3: over}, api.ErrRange},
		{api.Means, map[int][2]int64{0: over, 3: below}, api.ErrOver},
		{api.Means, map[int][2]int64{1: over, 5: below}, api.ErrOver},
		{api.Means, map[int][2]int64{2: below, 4: over}, api.ErrRange},
		{api.Means, map[int][2]int64{5: below, 8: over}, api.ErrRange},
		{api.Means, map[int][2]int64{1: below, 4: below, 7: below}, api.OK},
		{api.Classes, map[int][2]int64{0: over, 1: below}, api.ErrOver},
		{api.Classes, map[int][2]int64{0: below, 1: over}, api.ErrRange},
		{api.Classes, map[int][2]int64{2: over, 3: below}, api.ErrOver},
		{api.Classes, map[int][2]int64{2: below, 3: over}, api.ErrRange},
		{api.Classes, map[int][2]int64{0: below, 8: over}, api.ErrRange},
		{api.Classes, map[int][2]int64{0: over, 8: below}, api.ErrOver},
		{api.Classes, map[int][2]int64{7: below, 8: below}, api.ErrRange},
	} {
		a, b := of(x.kind, 3, 9, 8, 9, 8, 9, 8, 9, 8, 9), of(x.kind, 3, 1, 2, 3, 1, 2, 3, 1, 2, 3)
		for place, n := range x.bad {
			*numbers(a)[place].at, *numbers(b)[place].at = n[0], n[1]
		}
		rest, e := told(a, b, true)
		if e != x.want {
			t.Fatalf("row %d: %v", i, e)
		}
		twoIs(t, Less, a, b, rest, x.want)
		merged, e := told(a, b, false)
		twoIs(t, Merge, a, b, merged, e)
	}
}

// P12.1: Merge and Less of many numbers, great and small, held against what great numbers tell.
func TestTwoTold(t *testing.T) {
	r := rand.New(rand.NewSource(21))
	for round := range 40000 {
		f, pick := anyForm(r, 5), seldomGreat(r, []int{1, 3, 20, 100}[round%4], 0)
		a, b := drawn(f.kind, f.bins, f.classes, pick), drawn(f.kind, f.bins, f.classes, pick)
		merged, e := told(a, b, false)
		twoIs(t, Merge, a, b, merged, e)
		if r.Intn(2) == 0 && e == api.OK {
			a = merged // something is left more often
		}
		rest, e := told(a, b, true)
		twoIs(t, Less, a, b, rest, e)
	}
}

// P12.1: a histogram with itself.
func TestTwoOfOne(t *testing.T) {
	a := of(api.Classes, 2, 1, 2, 3, 4)
	if h, e := Merge(a, a); !same(h, of(api.Classes, 2, 2, 4, 6, 8)) || e != api.OK {
		t.Error(h, e)
	}
	m := of(api.Means, 1, 1, -2, 4)
	if h, e := Less(m, m); !same(h, of(api.Means, 1, 0, 0, 0)) || e != api.OK {
		t.Error(h, e)
	}
}

// P12.1: Sum of all bins from and to which there are, and of such as there aren't.
func TestSumEnds(t *testing.T) {
	r := rand.New(rand.NewSource(3))
	for _, f := range []form{{api.Classes, 1, 2, 2, 0}, {api.Classes, 7, 3, 21, 0}, {api.Classes, 3, 256, 768, 0}, {api.Means, 1, 0, 0, 1}, {api.Means, 7, 0, 0, 7}, {api.Means, 257, 0, 0, 257}, {api.Classes, 257, 2, 514, 0}} {
		h := drawn(f.kind, f.bins, f.classes, func() int64 { return int64(r.Intn(2000) - 1000) })
		ends := append([]int{-1, -2, f.bins + 1, f.bins + 2, 2 * f.bins}, extremes...)
		for end := 0; end <= f.bins; end += 1 + f.bins/60 {
			ends = append(ends, end)
		}
		for _, from := range append(ends, f.bins) {
			for _, to := range append(ends, f.bins) {
				if from < 0 || from > to || to > f.bins {
					sumIs(t, h, from, to, nil, api.ErrArg)
					continue
				}
				want, e := toldSum(h, from, to)
				sumIs(t, h, from, to, want, e)
			}
		}
	}
}

// P12.1: Sum of no bins is zero, also of the greatest histogram.
func TestSumOfNone(t *testing.T) {
	for _, f := range rightForms() {
		h := drawn(f.kind, f.bins, f.classes, func() int64 { return top })
		for _, at := range []int{0, f.bins / 2, f.bins} {
			sumIs(t, h, at, at, make([]int64, max(f.classes, 3*f.kind)), api.OK)
		}
	}
}

// P12.1: sums that go beyond on the way, though they would come back, and such as only other bins would let go beyond.
func TestSumOnTheWay(t *testing.T) {
	for place := range 3 { // of three classes, or of a moment's three numbers
		for _, kind := range rightKinds {
			for _, x := range []struct {
				values   [4]int64
				from, to int
				want     int64
				wantErr  api.Errno
			}{
				{[4]int64{top, 1, -1, 0}, 0, 4, 0, api.ErrOver}, {[4]int64{top, 1, -1, 0}, 0, 3, 0, api.ErrOver}, {[4]int64{top, 1, -1, 0}, 0, 2, 0, api.ErrOver},
				{[4]int64{top, 1, -1, 0}, 0, 1, top, api.OK}, {[4]int64{top, 1, -1, 0}, 1, 4, 0, api.OK}, {[4]int64{top, -1, 1, 0}, 0, 4, top, api.OK},
				{[4]int64{bottom, -1, 1, 0}, 0, 4, 0, api.ErrOver}, {[4]int64{bottom, -1, 1, 0}, 0, 2, 0, api.ErrOver}, {[4]int64{bottom, -1, 1, 0}, 1, 4, 0, api.OK}, {[4]int64{bottom, 1, -1, 0}, 0, 4, bottom, api.OK},
				{[4]int64{top, top, 5, 6}, 1, 1, 0, api.OK}, {[4]int64{top, top, -5, 6}, 1, 3, top - 5, api.OK}, {[4]int64{top, top, 5, 6}, 2, 4, 11, api.OK}, {[4]int64{top, top, 5, 6}, 1, 3, 0, api.ErrOver},
				{[4]int64{5, 6, top, top}, 0, 2, 11, api.OK}, {[4]int64{-5, -6, top, top}, 0, 3, top - 11, api.OK}, {[4]int64{5, 6, top, top}, 3, 4, top, api.OK}, {[4]int64{5, 6, top, top}, 2, 4, 0, api.ErrOver},
				{[4]int64{-5, -6, -7, -8}, 0, 4, -26, api.OK}, {[4]int64{-5, -6, -7, -8}, 1, 3, -13, api.OK}, {[4]int64{bottom, 1, bottom, 1}, 1, 4, bottom + 2, api.OK}, {[4]int64{bottom, 1, bottom, 1}, 0, 3, 0, api.ErrOver}, {[4]int64{bottom, 1, bottom, 1}, 1, 3, bottom + 1, api.OK},
				{[4]int64{top - 3, 1, 1, 1}, 0, 4, top, api.OK}, {[4]int64{top - 3, 1, 1, 2}, 0, 4, 0, api.ErrOver}, {[4]int64{1, 1, 1, top - 2}, 0, 4, 0, api.ErrOver},
			} {
				h := of(kind, 4, 1, 2, 3, 1, 2, 3, 1, 2, 3, 1, 2, 3)
				want := []int64{}
				for i := range 3 {
					want = append(want, int64((i+1)*(x.to-x.from)))
				}
				for bin, n := range x.values {
					*numbers(h)[3*bin+place].at = n
				}
				if want[place] = x.want; x.wantErr != api.OK {
					want = nil
				}
				sumIs(t, h, x.from, x.to, want, x.wantErr)
			}
		}
	}
}

// P12.1: Sum of many numbers, great and small, held against what great numbers tell.
func TestSumTold(t *testing.T) {
	r := rand.New(rand.NewSource(8))
	for round := range 40000 {
		f := anyForm(r, 6)
		h := drawn(f.kind, f.bins, f.classes, seldomGreat(r, []int{1, 4, 30}[round%3], -20))
		from := r.Intn(f.bins + 1)
		to := from + r.Intn(f.bins-from+1)
		want, e := toldSum(h, from, to)
		sumIs(t, h, from, to, want, e)
	}
}

// fact is a target with a weight, in a bin.
type fact struct {
	bin    int
	target int64
	weight int
}

// facts are drawn ones for a form, of targets and weights as a forest may have.
func facts(r *rand.Rand, f form, n int) []fact {
	l := []fact{}
	for range n {
		target := int64(r.Intn(2*api.MaxTarget+1) - api.MaxTarget)
		if f.kind == api.Classes {
			target = int64(r.Intn(f.classes))
		}
		l = append(l, fact{r.Intn(f.bins), target, r.Intn(5)})
	}
	return l
}

// adding is what facts come to.
func adding(t *testing.T, f form, l []fact) api.Hist {
	t.Helper()
	h, _ := New(f.kind, f.bins, f.classes)
	for _, x := range l {
		if e := Add(&h, x.bin, x.target, x.weight); e != api.OK {
			t.Fatalf("%+v: %v", x, e)
		}
	}
	return h
}

// P12.2: facts, cut in two anywhere, come to what their histograms merged come to; without one part the other one is left.
func TestParts(t *testing.T) {
	r := rand.New(rand.NewSource(122))
	for _, f := range []form{{api.Classes, 1, 2, 2, 0}, {api.Classes, 5, 4, 20, 0}, {api.Classes, 257, 2, 514, 0}, {api.Classes, 9, 256, 2304, 0}, {api.Means, 1, 0, 0, 1}, {api.Means, 6, 0, 0, 6}, {api.Means, 257, 0, 0, 257}} {
		for _, n := range []int{0, 1, 2, 40} {
			l := facts(r, f, n)
			all := adding(t, f, l)
			for cut := range n + 1 {
				one, other := adding(t, f, l[:cut]), adding(t, f, l[cut:])
				twoIs(t, Merge, one, other, all, api.OK)
				twoIs(t, Merge, other, one, all, api.OK)
				twoIs(t, Less, all, one, other, api.OK)
				twoIs(t, Less, all, other, one, api.OK)
			}
		}
	}
}

// P12.2: facts, cut into many parts, come to the same, in whatever order these are merged, and bin by bin.
func TestManyParts(t *testing.T) {
	r := rand.New(rand.NewSource(221))
	for _, f := range []form{{api.Classes, 8, 5, 40, 0}, {api.Means, 8, 0, 0, 8}} {
		l := facts(r, f, 300)
		all := adding(t, f, l)
		merged, rest := adding(t, f, nil), all
		for _, i := range r.Perm(30) {
			part := adding(t, f, l[10*i:10*i+10])
			merged, _ = Merge(merged, part)
			rest, _ = Less(rest, part)
		}
		if !same(merged, all) || !same(rest, zeros(f.kind, f.bins, f.classes)) {
			t.Fatalf("%+v: merged %v, of %v; left %v", f, merged, all, rest)
		}
		for from := range f.bins {
			within := slices.DeleteFunc(slices.Clone(l), func(x fact) bool { return x.bin < from || x.bin >= from+3 })
			for i := range within {
				within[i].bin = 0
			}
			want, _ := toldSum(adding(t, f, within), 0, 1)
			sumIs(t, all, from, min(from+3, f.bins), want, api.OK)
		}
	}
}
