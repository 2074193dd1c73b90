package frac

import (
	"math"
	"math/big"
	"math/rand"
	"slices"
	"testing"

	"hornbeam/api"
)

const (
	top  = math.MaxUint64
	low  = math.MinInt64
	high = math.MaxInt64
)

func fr(hi, lo, den uint64) api.Frac {
	return api.Frac{Num: api.Wide{Hi: hi, Lo: lo}, Den: den}
}

func sg(num, den int64) api.Signed { return api.Signed{Num: num, Den: den} }

// fracs are fractions with Num and Den at the edges and some of any size; some are equals of others, and some aren't right.
func fracs() []api.Frac {
	l := []api.Frac{}
	for _, num := range []api.Wide{{}, {Lo: 1}, {Lo: 2}, {Lo: 6}, {Lo: top}, {Hi: 1}, {Hi: 1, Lo: 1}, {Hi: 1 << 63}, {Hi: top - 1, Lo: top}, {Hi: top}, {Hi: top, Lo: top - 1}, {Hi: top, Lo: top}} {
		for _, den := range []uint64{0, 1, 2, 3, 6, 1 << 32, 1 << 63, top - 1, top} {
			l = append(l, api.Frac{Num: num, Den: den})
		}
	}
	r := rand.New(rand.NewSource(5))
	for range 30 {
		num, den := r.Uint64()>>32>>r.Intn(32), 1+r.Uint64()>>33>>r.Intn(31)
		l = append(l, Of(num, den), Of(num*7, den*7), fr(r.Uint64(), r.Uint64(), r.Uint64()|1))
	}
	return l
}

// signeds are signed fractions with Num and Den at the edges and some of any size; some are equals of others, and some aren't right.
func signeds() []api.Signed {
	l := []api.Signed{}
	for _, num := range []int64{low, low + 1, -1 << 62, -6, -2, -1, 0, 1, 2, 6, 1 << 62, high - 1, high} {
		for _, den := range []int64{low, -1, 0, 1, 2, 3, 6, 1 << 62, high - 1, high} {
			l = append(l, sg(num, den))
		}
	}
	r := rand.New(rand.NewSource(6))
	for range 30 {
		num, den := int64(r.Uint64()>>32)-1<<31, 1+int64(r.Uint64()>>33)
		l = append(l, sg(num, den), sg(num*5, den*5), sg(int64(r.Uint64()), int64(r.Uint64()>>1|1)))
	}
	return l
}

// number is the number that a fraction is, without bounds; nil, if its Den isn't above 0.
func number(num, den *big.Int) *big.Rat {
	if den.Sign() < 1 {
		return nil
	}
	return new(big.Rat).SetFrac(num, den)
}

func numberOf(a api.Frac) *big.Rat {
	num := new(big.Int).Lsh(new(big.Int).SetUint64(a.Num.Hi), 64)
	num.Add(num, new(big.Int).SetUint64(a.Num.Lo))
	return number(num, new(big.Int).SetUint64(a.Den))
}

func numberOfSigned(a api.Signed) *big.Rat {
	return number(big.NewInt(a.Num), big.NewInt(a.Den))
}

// apart is how two numbers stand to one another, either of which may be none.
func apart(a, b *big.Rat) int {
	switch {
	case a == nil && b == nil:
		return 0
	case a == nil:
		return -1
	case b == nil:
		return 1
	}
	return a.Cmp(b)
}

// P5.1: Of is num divided by den, whatever they are.
func TestOf(t *testing.T) {
	for _, num := range []uint64{0, 1, 7, 1 << 63, top} {
		for _, den := range []uint64{0, 1, 3, 1 << 63, top} {
			if a := Of(num, den); a != fr(0, num, den) {
				t.Errorf("Of(%d, %d): %v", num, den, a)
			}
		}
	}
}

// P5.1: Right hangs on Den alone.
func TestRight(t *testing.T) {
	for _, hi := range []uint64{0, 1, 1 << 63, top} {
		for _, lo := range []uint64{0, 1, 1 << 63, top} {
			if Right(fr(hi, lo, 0)) {
				t.Errorf("right: %d, %d by 0", hi, lo)
			}
			for _, den := range []uint64{1, 2, 1 << 32, 1 << 63, top} {
				if !Right(fr(hi, lo, den)) {
					t.Errorf("not right: %d, %d by %d", hi, lo, den)
				}
			}
		}
	}
}

// P5.1, P5.2: Cmp: the chapter's examples, and what is less, as much and not right at the edges; either way round.
func TestCmpKnown(t *testing.T) {
	for _, x := range []struct {
		a, b api.Frac
		want int
	}{
		{Of(1, 3), fr(1, 0, 3), -1},
		{Of(1, 3), Of(2, 6), 0},
		{Of(1, 3), Of(1, 2), -1},
		{Of(2, 7), Of(3, 7), -1},
		{Of(3, 7), Of(3, 7), 0},
		{Of(9, 4), Of(5, 2), -1}, // the greater Num and the greater Den, and less
		{Of(0, 1), Of(0, top), 0},
		{Of(0, 1), Of(1, top), -1},
		{Of(1, top), Of(1, top-1), -1},
		{Of(top-1, top), Of(1, 1), -1},
		{Of(top, top), Of(1, 1), 0},
		{Of(top-2, top-1), Of(top-1, top), -1},
		{fr(top, top, 1), fr(top, top, 1), 0},
		{fr(top, top-1, 1), fr(top, top, 1), -1},
		{fr(top, top, top), fr(top, top, 1), -1},
		{fr(top, top, top), fr(top, top, top), 0},
		{fr(top, top, top), fr(1, 1, 1), 0}, // 2^128 - 1 is 2^64 - 1 by 2^64 + 1
		{fr(1, 0, 1), fr(top, top, top), -1},
		{fr(top, top, top), fr(1, 2, 1), -1},
		{fr(1, 0, 1), fr(2, 0, 2), 0},
		{fr(0, top, 1), fr(1, 0, 1), -1},
		{fr(0, 0, 0), fr(0, 0, 1), -1},
		{fr(top, top, 0), fr(0, 0, top), -1},
		{Of(9, 0), Of(1, 9), -1},
		{fr(0, 0, 0), fr(0, 0, 0), 0},
		{fr(0, 0, 0), fr(top, top, 0), 0},
		{Of(1, 0), Of(2, 0), 0},
		{fr(1, 0, 0), fr(0, 1, 0), 0},
	} {
		if c := Cmp(x.a, x.b); c != x.want {
			t.Errorf("Cmp(%v, %v): %d, not %d", x.a, x.b, c, x.want)
		}
		if c := Cmp(x.b, x.a); c != -x.want {
			t.Errorf("Cmp(%v, %v): %d, not %d", x.b, x.a, c, -x.want)
		}
	}
}

// holdOrder holds an order against what is worked out apart, each against each: so it is the opposite the other way round, and what is less than something less is less.
func holdOrder[T any](t *testing.T, name string, l []T, order func(a, b T) int, value func(T) *big.Rat) {
	t.Helper()
	values := make([]*big.Rat, len(l))
	for i, a := range l {
		values[i] = value(a)
	}
	stands := make([][]int, len(l))
	for i, a := range l {
		stands[i] = make([]int, len(l))
		for k, b := range l {
			c := order(a, b)
			stands[i][k] = c
			if want := apart(values[i], values[k]); c != want {
				t.Fatalf("%s(%v, %v): %d, not %d", name, a, b, c, want)
			}
			if back := order(b, a); back != -c {
				t.Fatalf("%s(%v, %v): %d, the other way round %d", name, a, b, c, back)
			}
		}
	}
	for i := range l {
		for k := range l {
			for m := range l {
				if stands[i][k] <= 0 && stands[k][m] <= 0 && stands[i][m] != min(stands[i][k], stands[k][m]) {
					t.Fatalf("%s: %v, %v, %v", name, l[i], l[k], l[m])
				}
			}
		}
	}
}

// P5.1, P5.2: Cmp is the order of the numbers, and what isn't right stands below.
func TestCmpApart(t *testing.T) {
	holdOrder(t, "Cmp", fracs(), Cmp, numberOf)
}

// P5.1: Best: none, none right, one right, several as great, the greatest one at either end.
func TestBestKnown(t *testing.T) {
	big, none := fr(top, top, 1), fr(top, top, 0)
	for _, x := range []struct {
		l    []api.Frac
		want int
	}{
		{nil, -1},
		{[]api.Frac{}, -1},
		{[]api.Frac{{}}, -1},
		{[]api.Frac{none, {}, Of(1, 0)}, -1},
		{[]api.Frac{Of(0, 1)}, 0},
		{[]api.Frac{Of(0, 1), none, none}, 0},
		{[]api.Frac{none, Of(0, top), none}, 1},
		{[]api.Frac{none, none, Of(0, 1)}, 2},
		{[]api.Frac{Of(0, 1), Of(0, 2), Of(0, top)}, 0},
		{[]api.Frac{none, Of(1, 4), Of(1, 3), Of(2, 6), Of(3, 9), Of(1, 5)}, 2},
		{[]api.Frac{Of(3, 9), Of(2, 6), Of(1, 3), none}, 0},
		{[]api.Frac{Of(1, 4), fr(1, 1, 1), fr(top, top, top), Of(1, 4)}, 1},
		{[]api.Frac{Of(1, 4), fr(top, top, top), fr(1, 1, 1), Of(1, 4)}, 1},
		{[]api.Frac{big, Of(1, 3), Of(top, 1), none}, 0},
		{[]api.Frac{Of(1, 3), none, Of(top, 1), big}, 3},
		{[]api.Frac{Of(1, 2), Of(5, 2), Of(9, 4), Of(7, 3)}, 1},
	} {
		was := slices.Clone(x.l)
		if i := Best(x.l); i != x.want {
			t.Errorf("Best(%v): %d, not %d", x.l, i, x.want)
		}
		if !slices.Equal(was, x.l) {
			t.Errorf("Best changed %v to %v", was, x.l)
		}
	}
}

// P5.1: Best, held against what is worked out apart, of many lists in any order.
func TestBestApart(t *testing.T) {
	all := fracs()
	r := rand.New(rand.NewSource(7))
	for range 2000 {
		l := make([]api.Frac, r.Intn(9))
		want := -1
		for i := range l {
			l[i] = all[r.Intn(len(all))]
			v := numberOf(l[i])
			if v != nil && (want < 0 || v.Cmp(numberOf(l[want])) > 0) {
				want = i
			}
		}
		if i := Best(l); i != want {
			t.Fatalf("Best(%v): %d, not %d", l, i, want)
		}
	}
}

// P5.1: CmpSigned, at both ends, on both sides of 0, and of what isn't right; either way round.
func TestCmpSignedKnown(t *testing.T) {
	for _, x := range []struct {
		a, b api.Signed
		want int
	}{
		{sg(-1, 2), sg(0, 1), -1},
		{sg(-1, 2), sg(1, 2), -1},
		{sg(0, 1), sg(1, high), -1},
		{sg(-1, high), sg(0, high), -1},
		{sg(0, 1), sg(0, high), 0},
		{sg(-1, 2), sg(-1, 3), -1},
		{sg(1, 3), sg(1, 2), -1},
		{sg(3, 6), sg(1, 2), 0},
		{sg(-3, 6), sg(-1, 2), 0},
		{sg(low, 1), sg(low+1, 1), -1},
		{sg(low, 1), sg(low, 1), 0},
		{sg(low, 1), sg(low, high), -1},
		{sg(low, 1), sg(high, 1), -1},
		{sg(low, high), sg(-1, 1), -1},
		{sg(low+1, high), sg(-1, 1), 0},
		{sg(low, high), sg(low, high-1), 1},
		{sg(low, 2), sg(-1<<62, 1), 0},
		{sg(high, high), sg(1, 1), 0},
		{sg(high-1, high), sg(1, 1), -1},
		{sg(high, high-1), sg(1, 1), 1},
		{sg(high, high), sg(high, 1), -1},
		{sg(high-1, 1), sg(high, 1), -1},
		{sg(5, 0), sg(-9, 1), -1},
		{sg(high, 0), sg(low, 1), -1},
		{sg(-1, -1), sg(low, 1), -1},
		{sg(high, low), sg(low, 1), -1},
		{sg(0, 0), sg(0, 1), -1},
		{sg(0, 0), sg(0, 0), 0},
		{sg(5, -1), sg(0, 0), 0},
		{sg(low, low), sg(high, 0), 0},
		{sg(-1, -2), sg(1, -3), 0},
	} {
		if c := CmpSigned(x.a, x.b); c != x.want {
			t.Errorf("CmpSigned(%v, %v): %d, not %d", x.a, x.b, c, x.want)
		}
		if c := CmpSigned(x.b, x.a); c != -x.want {
			t.Errorf("CmpSigned(%v, %v): %d, not %d", x.b, x.a, c, -x.want)
		}
	}
}

// P5.1: CmpSigned is the order of the numbers, and what isn't right stands below.
func TestCmpSignedApart(t *testing.T) {
	holdOrder(t, "CmpSigned", signeds(), CmpSigned, numberOfSigned)
}

// P5.1: Text: the chapter's example, both ends, nothing taken out of what both could be divided by, and the word of what isn't right.
func TestText(t *testing.T) {
	for _, x := range []struct {
		a    api.Signed
		want string
	}{
		{sg(-1, 4), "-1/4"},
		{sg(1, 4), "1/4"},
		{sg(2, 8), "2/8"},
		{sg(-10, 5), "-10/5"},
		{sg(0, 1), "0/1"},
		{sg(0, 7), "0/7"},
		{sg(0, high), "0/9223372036854775807"},
		{sg(low, 1), "-9223372036854775808/1"},
		{sg(low, high), "-9223372036854775808/9223372036854775807"},
		{sg(high, 1), "9223372036854775807/1"},
		{sg(high, high), "9223372036854775807/9223372036854775807"},
		{sg(0, 0), "none"},
		{sg(1, 0), "none"},
		{sg(low, 0), "none"},
		{sg(high, 0), "none"},
		{sg(0, -1), "none"},
		{sg(1, -4), "none"},
		{sg(-1, -4), "none"},
		{sg(low, low), "none"},
		{sg(high, low), "none"},
	} {
		if s := Text(x.a); s != x.want {
			t.Errorf("Text(%v): %q, not %q", x.a, s, x.want)
		}
	}
}
