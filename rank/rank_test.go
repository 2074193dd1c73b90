package rank

import (
	"math"
	"math/rand"
	"slices"
	"testing"
)

// known are values told by their bits, in order; those of one place are the same.
var known = []struct {
	bits, key, clean uint64
	place            int
}{
	{0x7ff8000000000001, 0, 0x7ff8000000000001, 0}, // the clean NaN
	{0x7ff8000000000000, 0, 0x7ff8000000000001, 0},
	{0x7ff8000000000123, 0, 0x7ff8000000000001, 0},
	{0x7fffffffffffffff, 0, 0x7ff8000000000001, 0},
	{0x7ff0000000000001, 0, 0x7ff8000000000001, 0}, // from here on NaNs that aren't quiet
	{0x7ff4000000000000, 0, 0x7ff8000000000001, 0},
	{0x7ff7ffffffffffff, 0, 0x7ff8000000000001, 0},
	{0xfff0000000000001, 0, 0x7ff8000000000001, 0},
	{0xfff4000000000000, 0, 0x7ff8000000000001, 0},
	{0xfff7ffffffffffff, 0, 0x7ff8000000000001, 0},
	{0xfff8000000000000, 0, 0x7ff8000000000001, 0}, // from here on quiet ones with the sign
	{0xfff8000000000001, 0, 0x7ff8000000000001, 0},
	{0xfff8000000000123, 0, 0x7ff8000000000001, 0},
	{0xffffffffffffffff, 0, 0x7ff8000000000001, 0},
	{0xfff0000000000000, 0x000fffffffffffff, 0xfff0000000000000, 1},  // -Inf
	{0xffefffffffffffff, 0x0010000000000000, 0xffefffffffffffff, 2},  // the greatest of all, below 0
	{0xbff0000000000000, 0x400fffffffffffff, 0xbff0000000000000, 3},  // -1
	{0x8010000000000000, 0x7fefffffffffffff, 0x8010000000000000, 4},  // the smallest with a full exponent, below 0
	{0x800fffffffffffff, 0x7ff0000000000000, 0x800fffffffffffff, 5},  // the greatest without one, below 0
	{0x8000000000000001, 0x7ffffffffffffffe, 0x8000000000000001, 6},  // the smallest of all, below 0
	{0x8000000000000000, 0x8000000000000000, 0x0000000000000000, 7},  // -0
	{0x0000000000000000, 0x8000000000000000, 0x0000000000000000, 7},  // 0
	{0x0000000000000001, 0x8000000000000001, 0x0000000000000001, 8},  // the smallest of all
	{0x000fffffffffffff, 0x800fffffffffffff, 0x000fffffffffffff, 9},  // the greatest without a full exponent
	{0x0010000000000000, 0x8010000000000000, 0x0010000000000000, 10}, // the smallest with one
	{0x3ff0000000000000, 0xbff0000000000000, 0x3ff0000000000000, 11}, // 1
	{0x7fefffffffffffff, 0xffefffffffffffff, 0x7fefffffffffffff, 12}, // the greatest of all
	{0x7ff0000000000000, 0xfff0000000000000, 0x7ff0000000000000, 13}, // +Inf
}

func value(bits uint64) float64 { return math.Float64frombits(bits) }

func values(bits ...uint64) []float64 {
	l := []float64{}
	for _, b := range bits {
		l = append(l, value(b))
	}
	return l
}

func bitsOf(l []float64) []uint64 {
	bits := []uint64{}
	for _, f := range l {
		bits = append(bits, math.Float64bits(f))
	}
	return bits
}

func knownBits() []uint64 {
	bits := []uint64{}
	for _, x := range known {
		bits = append(bits, x.bits)
	}
	return bits
}

// anyBits are bits of values of any size, near ones among them, and often what is missing, infinite, or 0.
func anyBits(r *rand.Rand, n int) []uint64 {
	bits := []uint64{}
	for len(bits) < n {
		b := r.Uint64()
		switch r.Intn(5) {
		case 0:
			b = known[r.Intn(len(known))].bits
		case 1:
			b |= 0x7ff0000000000000
		case 2:
			b = math.Float64bits(float64(r.Intn(9) - 4))
		}
		bits = append(bits, b, b^uint64(r.Intn(4)))
	}
	return bits[:n]
}

// apart is how two values stand to one another, as the language holds numbers against one another.
func apart(a, b float64) int {
	switch aMissing, bMissing := a != a, b != b; {
	case aMissing && bMissing:
		return 0
	case aMissing:
		return -1
	case bMissing:
		return 1
	}
	switch {
	case a < b:
		return -1
	case a > b:
		return 1
	}
	return 0
}

func sameBits(a float64, bits uint64) bool { return math.Float64bits(a) == bits }

func order(a, b uint64) int {
	switch {
	case a < b:
		return -1
	case a > b:
		return 1
	}
	return 0
}

// P6.1: Missing: of all NaNs, of either sign, quiet or not, and of nothing else.
func TestMissing(t *testing.T) {
	for _, x := range known {
		if m := Missing(value(x.bits)); m != (x.place == 0) {
			t.Errorf("Missing(%016x): %v", x.bits, m)
		}
	}
	for _, b := range anyBits(rand.New(rand.NewSource(1)), 5000) {
		if f := value(b); Missing(f) != (f != f) {
			t.Fatalf("Missing(%016x): %v", b, Missing(f))
		}
	}
}

// P6.1: Key: the chapter's examples.
func TestKeyExamples(t *testing.T) {
	for _, x := range []struct {
		f    float64
		want uint64
	}{
		{math.Inf(-1), 0x000fffffffffffff},
		{0, 0x8000000000000000},
		{math.Copysign(0, -1), 0x8000000000000000},
		{1, 0xbff0000000000000},
		{math.NaN(), 0},
	} {
		if k := Key(x.f); k != x.want {
			t.Errorf("Key(%v): %016x, not %016x", x.f, k, x.want)
		}
	}
}

// P6.1: Key at the edges.
func TestKeyKnown(t *testing.T) {
	for _, x := range known {
		if k := Key(value(x.bits)); k != x.key {
			t.Errorf("Key(%016x): %016x, not %016x", x.bits, k, x.key)
		}
	}
}

// P6.1: Clean: the one NaN in place of any, 0 in place of -0, all others bit by bit as they are; and what is clean stays so.
func TestClean(t *testing.T) {
	for _, x := range known {
		f := Clean(value(x.bits))
		if !sameBits(f, x.clean) {
			t.Errorf("Clean(%016x): %016x, not %016x", x.bits, math.Float64bits(f), x.clean)
		}
		if again := Clean(f); !sameBits(again, x.clean) {
			t.Errorf("Clean twice of %016x: %016x, not %016x", x.bits, math.Float64bits(again), x.clean)
		}
	}
	for _, b := range anyBits(rand.New(rand.NewSource(2)), 5000) {
		f, want := value(b), b
		if f != f {
			want = 0x7ff8000000000001
		} else if f == 0 {
			want = 0
		}
		if c := Clean(f); !sameBits(c, want) {
			t.Fatalf("Clean(%016x): %016x, not %016x", b, math.Float64bits(c), want)
		}
	}
}

// P6.1: Of a value's key is that value, clean, bit by bit.
func TestOfKeys(t *testing.T) {
	for _, x := range known {
		for _, key := range []uint64{x.key, Key(value(x.bits))} {
			if f, ok := Of(key); !ok || !sameBits(f, x.clean) {
				t.Errorf("Of(%016x): %016x, %v, not %016x", key, math.Float64bits(f), ok, x.clean)
			}
		}
	}
	for _, b := range anyBits(rand.New(rand.NewSource(3)), 5000) {
		want := math.Float64bits(Clean(value(b)))
		if f, ok := Of(Key(value(b))); !ok || !sameBits(f, want) {
			t.Fatalf("Of the key of %016x: %016x, %v", b, math.Float64bits(f), ok)
		}
	}
}

// P6.1: Of any number: 0 is what is missing; else the keys of values below 0, and of others, are all numbers between two ends; no other number is a key.
func TestOfNumbers(t *testing.T) {
	for _, x := range []struct {
		key, bits uint64
		ok        bool
	}{
		{0, 0x7ff8000000000001, true},
		{1, 0, false},
		{2, 0, false},
		{0x0007ffffffffffff, 0, false}, // what a quiet NaN's bits would come to
		{0x000ffffffffffffe, 0, false}, // below the key of -Inf
		{0x000fffffffffffff, 0xfff0000000000000, true},
		{0x0010000000000000, 0xffefffffffffffff, true}, // above the key of -Inf
		{0x7ffffffffffffffe, 0x8000000000000001, true},
		{0x7fffffffffffffff, 0, false}, // below the key of 0: what the bits of -0 would come to
		{0x8000000000000000, 0, true},
		{0x8000000000000001, 1, true},
		{0xfff0000000000000, 0x7ff0000000000000, true},
		{0xfff0000000000001, 0, false}, // above the key of +Inf
		{0xfff8000000000001, 0, false}, // what the clean NaN's bits would come to
		{math.MaxUint64 - 1, 0, false},
		{math.MaxUint64, 0, false},
	} {
		if f, ok := Of(x.key); ok != x.ok || !sameBits(f, x.bits) {
			t.Errorf("Of(%016x): %016x, %v", x.key, math.Float64bits(f), ok)
		}
	}
	r := rand.New(rand.NewSource(4))
	for range 20000 {
		key := r.Uint64()
		if r.Intn(2) == 0 { // often near the ends
			key = known[r.Intn(len(known))].key + uint64(r.Intn(9)) - 4
		}
		below := 0x000fffffffffffff <= key && key <= 0x7ffffffffffffffe
		other := 0x8000000000000000 <= key && key <= 0xfff0000000000000
		f, ok := Of(key)
		if ok != (key == 0 || below || other) {
			t.Fatalf("Of(%016x): %v", key, ok)
		}
		if ok && Key(f) != key || !ok && !sameBits(f, 0) {
			t.Fatalf("Of(%016x): %016x, %v", key, math.Float64bits(f), ok)
		}
	}
}

// P6.1: Cmp of each against each, those that are missing and 0 and -0 among them; the opposite the other way round.
func TestCmpKnown(t *testing.T) {
	for _, x := range known {
		for _, y := range known {
			want := order(uint64(x.place), uint64(y.place))
			if c := Cmp(value(x.bits), value(y.bits)); c != want {
				t.Errorf("Cmp(%016x, %016x): %d, not %d", x.bits, y.bits, c, want)
			}
			if c := Cmp(value(y.bits), value(x.bits)); c != -want {
				t.Errorf("Cmp(%016x, %016x): %d, not %d", y.bits, x.bits, c, -want)
			}
		}
	}
}

// P6.2: keys stand to one another as values do: each known one against each, as their places tell and as Cmp tells.
func TestKeysInOrderKnown(t *testing.T) {
	for _, x := range known {
		for _, y := range known {
			a, b := value(x.bits), value(y.bits)
			c := order(Key(a), Key(b))
			if want := order(uint64(x.place), uint64(y.place)); c != want || c != Cmp(a, b) {
				t.Errorf("keys of %016x, %016x: %d, not %d; Cmp: %d", x.bits, y.bits, c, want, Cmp(a, b))
			}
		}
	}
}

// P6.1, P6.2: Cmp, and how keys stand to one another, held against the language's own order of numbers.
func TestOrderApart(t *testing.T) {
	bits := append(anyBits(rand.New(rand.NewSource(5)), 800), knownBits()...)
	for _, p := range bits {
		for _, q := range bits {
			a, b := value(p), value(q)
			want := apart(a, b)
			if c := Cmp(a, b); c != want {
				t.Fatalf("Cmp(%016x, %016x): %d, not %d", p, q, c, want)
			}
			if c := order(Key(a), Key(b)); c != want {
				t.Fatalf("keys of %016x, %016x: %d, not %d", p, q, c, want)
			}
		}
	}
}

// holdSort holds Sort's answer bit by bit, and the list that is handed in too; neither is written into through the other.
func holdSort(t *testing.T, in, want []uint64) {
	t.Helper()
	l := values(in...)
	out := Sort(l)
	if got := bitsOf(out); !slices.Equal(got, want) {
		t.Fatalf("Sort(%016x): %016x, not %016x", in, got, want)
	}
	if got := bitsOf(l); !slices.Equal(got, in) {
		t.Fatalf("Sort changed %016x to %016x", in, got)
	}
	for i := range out {
		out[i] = 12345
	}
	if got := bitsOf(l); !slices.Equal(got, in) {
		t.Fatalf("the answer is the list handed in: %016x", in)
	}
	out = Sort(l)
	for i := range l {
		l[i] = 54321
	}
	if got := bitsOf(out); !slices.Equal(got, want) {
		t.Fatalf("the list handed in was kept: %016x", in)
	}
}

// P6.1: Sort: none, one, what is missing, 0 and -0, in order, in the opposite order, twice there.
func TestSortKnown(t *testing.T) {
	const (
		nan       = 0x7ff8000000000001
		minus0    = 0x8000000000000000
		minus1    = 0xbff0000000000000
		one       = 0x3ff0000000000000
		two       = 0x4000000000000000
		inf       = 0x7ff0000000000000
		minusInf  = 0xfff0000000000000
		tiny      = 0x0000000000000001
		minusTiny = 0x8000000000000001
	)
	if out := Sort(nil); len(out) != 0 {
		t.Errorf("Sort(nil): %v", out)
	}
	for _, x := range []struct{ in, want []uint64 }{
		{[]uint64{}, []uint64{}},
		{[]uint64{one}, []uint64{one}},
		{[]uint64{minus0}, []uint64{0}},
		{[]uint64{0xfff0000000000001}, []uint64{nan}},
		{[]uint64{minusInf}, []uint64{minusInf}},
		{[]uint64{0xfff8000000000123, 0x7ff0000000000001, nan, 0xffffffffffffffff}, []uint64{nan, nan, nan, nan}},
		{[]uint64{one, 0xfff8000000000123, minusInf, 0x7ff0000000000001}, []uint64{nan, nan, minusInf, one}},
		{[]uint64{0, minus0}, []uint64{0, 0}},
		{[]uint64{minus0, 0}, []uint64{0, 0}},
		{[]uint64{tiny, minus0, minusTiny, 0, minus0}, []uint64{minusTiny, 0, 0, 0, tiny}},
		{[]uint64{nan, minusInf, minus1, 0, one, two, inf}, []uint64{nan, minusInf, minus1, 0, one, two, inf}},
		{[]uint64{inf, two, one, 0, minus1, minusInf, nan}, []uint64{nan, minusInf, minus1, 0, one, two, inf}},
		{[]uint64{two, minus1, two, inf, minus1, inf, one}, []uint64{minus1, minus1, one, two, two, inf, inf}},
		{[]uint64{two, minus0, 0x7ff8000000000123, minusInf, one, 0xfff8000000000000}, []uint64{nan, nan, minusInf, 0, one, two}},
	} {
		holdSort(t, x.in, x.want)
	}
}

// P6.1: Sort of all known values, in order and in the opposite order.
func TestSortAllKnown(t *testing.T) {
	in, want := knownBits(), []uint64{}
	for _, x := range known {
		want = append(want, x.clean)
	}
	holdSort(t, in, want)
	slices.Reverse(in)
	holdSort(t, in, want)
}

// P6.1: Sort of many lists in any order: what is answered is the clean values, put one by one where they belong.
func TestSortApart(t *testing.T) {
	r := rand.New(rand.NewSource(6))
	for range 400 {
		in := anyBits(r, r.Intn(120))
		want := []float64{}
		for _, b := range in {
			f := Clean(value(b))
			i := len(want)
			for i > 0 && apart(want[i-1], f) > 0 {
				i--
			}
			want = slices.Insert(want, i, f)
		}
		holdSort(t, in, bitsOf(want))
	}
}
