package prod

import (
	"math"
	"math/big"
	"math/rand"
	"testing"

	"hornbeam/api"
)

const (
	top  = math.MaxUint64
	low  = math.MinInt64
	high = math.MaxInt64
)

// whole is what parts of 64 bits, the highest first, come to.
func whole(parts ...uint64) *big.Int {
	n := new(big.Int)
	for _, p := range parts {
		n.Lsh(n, 64)
		n.Or(n, new(big.Int).SetUint64(p))
	}
	return n
}

func wide(w api.Wide) *big.Int { return whole(w.Hi, w.Lo) }

func long(l [3]uint64) *big.Int { return whole(l[0], l[1], l[2]) }

func times(a, b *big.Int) *big.Int { return new(big.Int).Mul(a, b) }

func plus(a, b *big.Int) *big.Int { return new(big.Int).Add(a, b) }

// bare are numbers of 64 bits: the edges, their neighbours, and some of any size.
func bare() []uint64 {
	l := []uint64{0, 1, 2, 3, 1<<32 - 1, 1 << 32, 1<<32 + 1, 1<<63 - 1, 1 << 63, 1<<63 + 1, top - 1, top}
	r := rand.New(rand.NewSource(4))
	for range 12 {
		l = append(l, r.Uint64()>>r.Intn(64))
	}
	return l
}

// signed are numbers with a sign: the edges, their neighbours, and some of any size.
func signed() []int64 {
	l := []int64{0}
	for _, n := range []int64{1, 2, 3, 7, 1<<31 - 1, 1 << 31, 1<<32 - 1, 1 << 32, 1<<32 + 1, 3037000499, 3037000500, 1 << 62, 1<<62 - 1, 1<<62 + 1, high - 1, high} {
		l = append(l, n, -n)
	}
	l = append(l, low)
	r := rand.New(rand.NewSource(5))
	for range 40 {
		n := int64(r.Uint64() >> 1 >> r.Intn(63))
		l = append(l, n, -n)
	}
	return l
}

func wides() []api.Wide {
	l := []api.Wide{}
	for _, hi := range bare() {
		for _, lo := range bare() {
			l = append(l, api.Wide{Hi: hi, Lo: lo})
		}
	}
	return l
}

// P4.1: Mul is the product: known answers, either way round.
func TestMulKnown(t *testing.T) {
	for _, x := range []struct {
		a, b uint64
		want api.Wide
	}{
		{0, 0, api.Wide{}},
		{0, 1, api.Wide{}},
		{0, 1<<32 - 1, api.Wide{}},
		{0, 1 << 32, api.Wide{}},
		{0, 1 << 63, api.Wide{}},
		{0, top, api.Wide{}},
		{1, 1, api.Wide{Lo: 1}},
		{1, 1<<32 - 1, api.Wide{Lo: 0xffffffff}},
		{1, 1 << 32, api.Wide{Lo: 0x100000000}},
		{1, 1 << 63, api.Wide{Lo: 0x8000000000000000}},
		{1, top, api.Wide{Lo: 0xffffffffffffffff}},
		{1<<32 - 1, 1<<32 - 1, api.Wide{Lo: 0xfffffffe00000001}},
		{1<<32 - 1, 1 << 32, api.Wide{Lo: 0xffffffff00000000}},
		{1<<32 - 1, 1 << 63, api.Wide{Hi: 0x7fffffff, Lo: 0x8000000000000000}},
		{1<<32 - 1, top, api.Wide{Hi: 0xfffffffe, Lo: 0xffffffff00000001}},
		{1 << 32, 1 << 32, api.Wide{Hi: 1}},
		{1 << 32, 1 << 63, api.Wide{Hi: 0x80000000}},
		{1 << 32, top, api.Wide{Hi: 0xffffffff, Lo: 0xffffffff00000000}},
		{1 << 63, 1 << 63, api.Wide{Hi: 0x4000000000000000}},
		{1 << 63, top, api.Wide{Hi: 0x7fffffffffffffff, Lo: 0x8000000000000000}},
		{top, top, api.Wide{Hi: 0xfffffffffffffffe, Lo: 1}},
	} {
		if p := Mul(x.a, x.b); p != x.want {
			t.Errorf("Mul(%#x, %#x): %#x, not %#x", x.a, x.b, p, x.want)
		}
		if p := Mul(x.b, x.a); p != x.want {
			t.Errorf("Mul(%#x, %#x): %#x, not %#x", x.b, x.a, p, x.want)
		}
	}
}

// P4.1: Mul, held against the product worked out without bounds.
func TestMulApart(t *testing.T) {
	for _, a := range bare() {
		for _, b := range bare() {
			if p := Mul(a, b); wide(p).Cmp(times(whole(a), whole(b))) != 0 {
				t.Errorf("Mul(%#x, %#x): %#x", a, b, p)
			}
		}
	}
}

// P4.1: Add: a carry from Lo to Hi, a sum of 2^128 - 1, and those from 2^128 on, which are none.
func TestAddKnown(t *testing.T) {
	for _, x := range []struct {
		a, b, want api.Wide
		e          api.Errno
	}{
		{api.Wide{}, api.Wide{}, api.Wide{}, api.OK},
		{api.Wide{Hi: 1, Lo: 2}, api.Wide{Hi: 30, Lo: 40}, api.Wide{Hi: 31, Lo: 42}, api.OK},
		{api.Wide{Lo: top}, api.Wide{Lo: 1}, api.Wide{Hi: 1}, api.OK},
		{api.Wide{Lo: top}, api.Wide{Lo: top}, api.Wide{Hi: 1, Lo: top - 1}, api.OK},
		{api.Wide{Hi: 5, Lo: 1 << 63}, api.Wide{Hi: 6, Lo: 1 << 63}, api.Wide{Hi: 12}, api.OK},
		{api.Wide{Hi: top - 1, Lo: top}, api.Wide{Lo: 1}, api.Wide{Hi: top}, api.OK},
		{api.Wide{Hi: top, Lo: top}, api.Wide{}, api.Wide{Hi: top, Lo: top}, api.OK},
		{api.Wide{Hi: top, Lo: top - 1}, api.Wide{Lo: 1}, api.Wide{Hi: top, Lo: top}, api.OK},
		{api.Wide{Hi: top}, api.Wide{Lo: top}, api.Wide{Hi: top, Lo: top}, api.OK},
		{api.Wide{Hi: 1<<63 - 1, Lo: top}, api.Wide{Hi: 1 << 63}, api.Wide{Hi: top, Lo: top}, api.OK},
		{api.Wide{Hi: top, Lo: top}, api.Wide{Lo: 1}, api.Wide{}, api.ErrOver},
		{api.Wide{Hi: top}, api.Wide{Hi: 1}, api.Wide{}, api.ErrOver},
		{api.Wide{Hi: 1 << 63}, api.Wide{Hi: 1 << 63}, api.Wide{}, api.ErrOver},
		{api.Wide{Hi: top - 1, Lo: 1 << 63}, api.Wide{Hi: 1, Lo: 1 << 63}, api.Wide{}, api.ErrOver},
		{api.Wide{Hi: top, Lo: top}, api.Wide{Hi: top, Lo: top}, api.Wide{}, api.ErrOver},
	} {
		if s, e := Add(x.a, x.b); s != x.want || e != x.e {
			t.Errorf("Add(%#x, %#x): %#x, %d, not %#x, %d", x.a, x.b, s, e, x.want, x.e)
		}
		if s, e := Add(x.b, x.a); s != x.want || e != x.e {
			t.Errorf("Add(%#x, %#x): %#x, %d, not %#x, %d", x.b, x.a, s, e, x.want, x.e)
		}
	}
}

// P4.1: Add and Cmp, held against what is worked out without bounds.
func TestAddAndCmpApart(t *testing.T) {
	most := whole(top, top)
	for _, a := range wides() {
		for _, b := range wides() {
			want := plus(wide(a), wide(b))
			s, e := Add(a, b)
			if want.Cmp(most) > 0 {
				if s != (api.Wide{}) || e != api.ErrOver {
					t.Fatalf("Add(%#x, %#x): %#x, %d", a, b, s, e)
				}
			} else if e != api.OK || wide(s).Cmp(want) != 0 {
				t.Fatalf("Add(%#x, %#x): %#x, %d", a, b, s, e)
			}
			if c := Cmp(a, b); c != wide(a).Cmp(wide(b)) {
				t.Fatalf("Cmp(%#x, %#x): %d", a, b, c)
			}
		}
	}
}

// steps are two numbers each, the first one below the other, at both ends and in between.
var steps = [][2]uint64{{0, 1}, {0, top}, {6, 7}, {1<<63 - 1, 1 << 63}, {1, 1 << 63}, {top - 1, top}}

// P4.1: Cmp: pairs that differ in each place alone, whatever the other one is; those that are the same; and a higher Hi outdoes any Lo.
func TestCmpKnown(t *testing.T) {
	hold := func(a, b api.Wide) {
		t.Helper()
		if c := Cmp(a, b); c != -1 {
			t.Errorf("Cmp(%#x, %#x): %d, not -1", a, b, c)
		}
		if c := Cmp(b, a); c != 1 {
			t.Errorf("Cmp(%#x, %#x): %d, not 1", b, a, c)
		}
	}
	for _, s := range steps {
		for _, same := range bare() {
			hold(api.Wide{Hi: s[0], Lo: same}, api.Wide{Hi: s[1], Lo: same})
			hold(api.Wide{Hi: same, Lo: s[0]}, api.Wide{Hi: same, Lo: s[1]})
		}
		hold(api.Wide{Hi: s[0], Lo: top}, api.Wide{Hi: s[1], Lo: 0})
	}
	for _, a := range wides() {
		if c := Cmp(a, a); c != 0 {
			t.Errorf("Cmp(%#x, the same): %d", a, c)
		}
	}
}

// P4.1: Times is the product, a long number: known answers.
func TestTimesKnown(t *testing.T) {
	for _, x := range []struct {
		a    api.Wide
		n    uint64
		want [3]uint64
	}{
		{api.Wide{}, 0, [3]uint64{}},
		{api.Wide{}, top, [3]uint64{}},
		{api.Wide{Hi: top, Lo: top}, 0, [3]uint64{}},
		{api.Wide{Lo: 1}, 1, [3]uint64{0, 0, 1}},
		{api.Wide{Lo: 1}, 1<<32 - 1, [3]uint64{0, 0, 0xffffffff}},
		{api.Wide{Lo: 1}, 1 << 32, [3]uint64{0, 0, 0x100000000}},
		{api.Wide{Lo: 1}, 1 << 63, [3]uint64{0, 0, 0x8000000000000000}},
		{api.Wide{Lo: 1}, top, [3]uint64{0, 0, 0xffffffffffffffff}},
		{api.Wide{Lo: top}, 1<<32 - 1, [3]uint64{0, 0xfffffffe, 0xffffffff00000001}},
		{api.Wide{Lo: top}, 1 << 32, [3]uint64{0, 0xffffffff, 0xffffffff00000000}},
		{api.Wide{Lo: top}, 1 << 63, [3]uint64{0, 0x7fffffffffffffff, 0x8000000000000000}},
		{api.Wide{Lo: top}, top, [3]uint64{0, 0xfffffffffffffffe, 1}},
		{api.Wide{Hi: 1}, 1, [3]uint64{0, 1, 0}},
		{api.Wide{Hi: 1}, 1 << 63, [3]uint64{0, 0x8000000000000000, 0}},
		{api.Wide{Hi: 1}, top, [3]uint64{0, 0xffffffffffffffff, 0}},
		{api.Wide{Hi: 0xffffffff, Lo: top}, 1<<32 - 1, [3]uint64{0, 0xfffffffeffffffff, 0xffffffff00000001}},
		{api.Wide{Hi: 0xffffffff, Lo: top}, 1 << 32, [3]uint64{0, 0xffffffffffffffff, 0xffffffff00000000}},
		{api.Wide{Hi: 0xffffffff, Lo: top}, top, [3]uint64{0xffffffff, 0xfffffffeffffffff, 1}},
		{api.Wide{Hi: 1 << 32}, 1 << 32, [3]uint64{1, 0, 0}},
		{api.Wide{Hi: 1 << 63}, 1<<32 - 1, [3]uint64{0x7fffffff, 0x8000000000000000, 0}},
		{api.Wide{Hi: 1 << 63}, 1 << 63, [3]uint64{0x4000000000000000, 0, 0}},
		{api.Wide{Hi: top}, top, [3]uint64{0xfffffffffffffffe, 1, 0}},
		{api.Wide{Hi: top, Lo: top}, 1, [3]uint64{0, 0xffffffffffffffff, 0xffffffffffffffff}},
		{api.Wide{Hi: top, Lo: top}, 1<<32 - 1, [3]uint64{0xfffffffe, 0xffffffffffffffff, 0xffffffff00000001}},
		{api.Wide{Hi: top, Lo: top}, 1 << 32, [3]uint64{0xffffffff, 0xffffffffffffffff, 0xffffffff00000000}},
		{api.Wide{Hi: top, Lo: top}, 1 << 63, [3]uint64{0x7fffffffffffffff, 0xffffffffffffffff, 0x8000000000000000}},
		{api.Wide{Hi: top, Lo: top}, top, [3]uint64{0xfffffffffffffffe, 0xffffffffffffffff, 1}},
		// A carry from the second place to the first one.
		{api.Wide{Hi: 0xaaaaaaaaaaaaaaab, Lo: top}, 3, [3]uint64{2, 3, 0xfffffffffffffffd}},
		{api.Wide{Hi: 0x5555555555555555, Lo: top}, 3, [3]uint64{1, 1, 0xfffffffffffffffd}},
	} {
		if p := Times(x.a, x.n); p != x.want {
			t.Errorf("Times(%#x, %#x): %#x, not %#x", x.a, x.n, p, x.want)
		}
	}
}

// P4.1: Times, held against the product worked out without bounds.
func TestTimesApart(t *testing.T) {
	for _, a := range wides() {
		for _, n := range bare() {
			if p := Times(a, n); long(p).Cmp(times(wide(a), whole(n))) != 0 {
				t.Errorf("Times(%#x, %#x): %#x", a, n, p)
			}
		}
	}
}

// P4.1: CmpLong: pairs that differ in each place alone, whatever the others are; those that are the same; and a higher place outdoes those behind it.
func TestCmpLongKnown(t *testing.T) {
	hold := func(a, b [3]uint64) {
		t.Helper()
		if c := CmpLong(a, b); c != -1 {
			t.Errorf("CmpLong(%#x, %#x): %d, not -1", a, b, c)
		}
		if c := CmpLong(b, a); c != 1 {
			t.Errorf("CmpLong(%#x, %#x): %d, not 1", b, a, c)
		}
	}
	for _, s := range steps {
		for _, x := range bare() {
			for _, y := range bare() {
				hold([3]uint64{s[0], x, y}, [3]uint64{s[1], x, y})
				hold([3]uint64{x, s[0], y}, [3]uint64{x, s[1], y})
				hold([3]uint64{x, y, s[0]}, [3]uint64{x, y, s[1]})
			}
			hold([3]uint64{x, s[0], top}, [3]uint64{x, s[1], 0})
		}
		hold([3]uint64{s[0], top, top}, [3]uint64{s[1], 0, 0})
		hold([3]uint64{s[0], top, 0}, [3]uint64{s[1], 0, top})
		hold([3]uint64{s[0], 0, top}, [3]uint64{s[1], top, 0})
	}
}

// P4.1: CmpLong, held against how the numbers stand without bounds, the same ones among them.
func TestCmpLongApart(t *testing.T) {
	some := []uint64{0, 1, 1 << 63, top - 1, top}
	l := [][3]uint64{}
	for _, x := range some {
		for _, y := range some {
			for _, z := range some {
				l = append(l, [3]uint64{x, y, z})
			}
		}
	}
	for _, a := range l {
		for _, b := range l {
			if c := CmpLong(a, b); c != long(a).Cmp(long(b)) {
				t.Errorf("CmpLong(%#x, %#x): %d", a, b, c)
			}
		}
	}
}

// P4.1: Square is n times n: the chapter's example, known answers.
func TestSquareKnown(t *testing.T) {
	for _, x := range []struct {
		n    int64
		want api.Wide
	}{
		{low, api.Wide{Hi: 1 << 62}},
		{low + 1, api.Wide{Hi: 0x3fffffffffffffff, Lo: 1}},
		{-1 << 32, api.Wide{Hi: 1}},
		{-2, api.Wide{Lo: 4}},
		{-1, api.Wide{Lo: 1}},
		{0, api.Wide{}},
		{1, api.Wide{Lo: 1}},
		{2, api.Wide{Lo: 4}},
		{1<<32 - 1, api.Wide{Lo: 0xfffffffe00000001}},
		{1 << 32, api.Wide{Hi: 1}},
		{high, api.Wide{Hi: 0x3fffffffffffffff, Lo: 1}},
	} {
		if s := Square(x.n); s != x.want {
			t.Errorf("Square(%d): %#x, not %#x", x.n, s, x.want)
		}
	}
}

// P4.1: Square, held against the product worked out without bounds.
func TestSquareApart(t *testing.T) {
	for _, n := range signed() {
		if s := Square(n); wide(s).Cmp(times(big.NewInt(n), big.NewInt(n))) != 0 {
			t.Errorf("Square(%d): %#x", n, s)
		}
	}
}

type known struct {
	a, b, want int64
	e          api.Errno
}

func holdKnown(t *testing.T, name string, f func(a, b int64) (int64, api.Errno), l []known) {
	t.Helper()
	for _, x := range l {
		if n, e := f(x.a, x.b); n != x.want || e != x.e {
			t.Errorf("%s(%d, %d): %d, %d, not %d, %d", name, x.a, x.b, n, e, x.want, x.e)
		}
	}
}

// holdApart holds f against what is worked out without bounds.
func holdApart(t *testing.T, name string, f func(a, b int64) (int64, api.Errno), apart func(a, b *big.Int) *big.Int) {
	t.Helper()
	for _, a := range signed() {
		for _, b := range signed() {
			n, e := f(a, b)
			want := apart(big.NewInt(a), big.NewInt(b))
			if !want.IsInt64() {
				if n != 0 || e != api.ErrOver {
					t.Errorf("%s(%d, %d): %d, %d, not ErrOver", name, a, b, n, e)
				}
			} else if n != want.Int64() || e != api.OK {
				t.Errorf("%s(%d, %d): %d, %d, not %d", name, a, b, n, e, want)
			}
		}
	}
}

// P4.1: Plus, at both ends and one beyond them.
func TestPlus(t *testing.T) {
	holdKnown(t, "Plus", Plus, []known{
		{0, 0, 0, api.OK},
		{2, 3, 5, api.OK},
		{-2, 3, 1, api.OK},
		{-7, -8, -15, api.OK},
		{high, 0, high, api.OK},
		{0, high, high, api.OK},
		{high - 1, 1, high, api.OK},
		{1, high - 1, high, api.OK},
		{1 << 62, 1<<62 - 1, high, api.OK},
		{high, 1, 0, api.ErrOver},
		{1, high, 0, api.ErrOver},
		{1 << 62, 1 << 62, 0, api.ErrOver},
		{high, high, 0, api.ErrOver},
		{low, 0, low, api.OK},
		{0, low, low, api.OK},
		{low + 1, -1, low, api.OK},
		{-1, low + 1, low, api.OK},
		{-1 << 62, -1 << 62, low, api.OK},
		{low, -1, 0, api.ErrOver},
		{-1, low, 0, api.ErrOver},
		{-1 << 62, -1<<62 - 1, 0, api.ErrOver},
		{low, low, 0, api.ErrOver},
		{low, high, -1, api.OK},
		{high, low, -1, api.OK},
	})
	holdApart(t, "Plus", Plus, plus)
}

// P4.1: Minus, at both ends and one beyond them.
func TestMinus(t *testing.T) {
	holdKnown(t, "Minus", Minus, []known{
		{0, 0, 0, api.OK},
		{2, 3, -1, api.OK},
		{-2, 3, -5, api.OK},
		{-7, -8, 1, api.OK},
		{high, 0, high, api.OK},
		{high - 1, -1, high, api.OK},
		{0, low + 1, high, api.OK},
		{-1, low, high, api.OK},
		{high, -1, 0, api.ErrOver},
		{0, low, 0, api.ErrOver},
		{1, low, 0, api.ErrOver},
		{high, low, 0, api.ErrOver},
		{low, 0, low, api.OK},
		{low + 1, 1, low, api.OK},
		{-1, high, low, api.OK},
		{low, 1, 0, api.ErrOver},
		{-2, high, 0, api.ErrOver},
		{low, high, 0, api.ErrOver},
		{low, low, 0, api.OK},
		{high, high, 0, api.OK},
	})
	holdApart(t, "Minus", Minus, func(a, b *big.Int) *big.Int { return new(big.Int).Sub(a, b) })
}

// P4.1: Product, at both ends and one beyond them. 2^63 - 1 is 49 times 188232082384791343, and 2^63 + 1 is 3 times 3074457345618258603.
func TestProduct(t *testing.T) {
	holdKnown(t, "Product", Product, []known{
		{0, 0, 0, api.OK},
		{0, low, 0, api.OK},
		{low, 0, 0, api.OK},
		{0, high, 0, api.OK},
		{6, 7, 42, api.OK},
		{-6, 7, -42, api.OK},
		{6, -7, -42, api.OK},
		{-6, -7, 42, api.OK},
		{high, 1, high, api.OK},
		{-high, -1, high, api.OK},
		{49, 188232082384791343, high, api.OK},
		{-49, -188232082384791343, high, api.OK},
		{49, -188232082384791343, -high, api.OK},
		{low, -1, 0, api.ErrOver},
		{-1, low, 0, api.ErrOver},
		{1 << 62, 2, 0, api.ErrOver},
		{-1 << 31, -1 << 32, 0, api.ErrOver},
		{3, 3074457345618258603, 0, api.ErrOver},
		{low, 1, low, api.OK},
		{1, low, low, api.OK},
		{-1 << 31, 1 << 32, low, api.OK},
		{2, -1 << 62, low, api.OK},
		{3, -3074457345618258603, 0, api.ErrOver},
		{-3, 3074457345618258603, 0, api.ErrOver},
		{1 << 32, 1 << 32, 0, api.ErrOver}, // it would go round to 0
		{-1 << 32, 1 << 32, 0, api.ErrOver},
		{high, 2, 0, api.ErrOver},
		{high, high, 0, api.ErrOver},
		{high, low, 0, api.ErrOver},
		{low, low, 0, api.ErrOver},
	})
	holdApart(t, "Product", Product, times)
}

// P4.1: Floor: the chapter's example; a below, at and above 0, divided without rest and with one; the ends.
func TestFloorKnown(t *testing.T) {
	holdKnown(t, "Floor", Floor, []known{
		{-7, 2, -4, api.OK},
		{-8, 2, -4, api.OK},
		{-9, 2, -5, api.OK},
		{-1, 2, -1, api.OK},
		{-1, high, -1, api.OK},
		{0, 1, 0, api.OK},
		{0, 2, 0, api.OK},
		{0, high, 0, api.OK},
		{1, 2, 0, api.OK},
		{7, 2, 3, api.OK},
		{8, 2, 4, api.OK},
		{9, 2, 4, api.OK},
		{-7, 1, -7, api.OK},
		{7, 1, 7, api.OK},
		{low, 1, low, api.OK},
		{low, 2, -1 << 62, api.OK},
		{low, 3, -3074457345618258603, api.OK},
		{low, high, -2, api.OK},
		{low + 1, high, -1, api.OK},
		{high, 1, high, api.OK},
		{high, 2, 1<<62 - 1, api.OK},
		{high, high, 1, api.OK},
		{high - 1, high, 0, api.OK},
	})
}

// P4.1: Floor has no answer, where b is below 1.
func TestFloorOfNothing(t *testing.T) {
	for _, a := range signed() {
		for _, b := range []int64{0, -1, -2, -high, low} {
			if n, e := Floor(a, b); n != 0 || e != api.ErrArg {
				t.Errorf("Floor(%d, %d): %d, %d, not ErrArg", a, b, n, e)
			}
		}
	}
}

// P4.1: Floor is the greatest one that isn't above: b times it isn't above a, and b times the next one is.
func TestFloorApart(t *testing.T) {
	for _, a := range signed() {
		for _, b := range signed() {
			if b < 1 {
				continue
			}
			n, e := Floor(a, b)
			below := times(big.NewInt(n), big.NewInt(b))
			above := plus(below, big.NewInt(b))
			if e != api.OK || below.Cmp(big.NewInt(a)) > 0 || above.Cmp(big.NewInt(a)) <= 0 {
				t.Errorf("Floor(%d, %d): %d, %d", a, b, n, e)
			}
		}
	}
}
