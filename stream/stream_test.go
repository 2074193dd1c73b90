package stream

import (
	"math/big"
	"testing"

	"hornbeam/api"
)

const most = 1<<64 - 1

// The keys and numbers here were worked out apart from this program.
var knownKeys = []struct{ seed, purpose, tree, node, key uint64 }{
	{0, 0, 0, 0, 0x2130748aaac80268},
	{1, 2, 3, 4, 0xd55ccd4aeb3ccafb},
	{4, 3, 2, 1, 0x47ec8a92768f8589},
	{5, api.ForPick, 2, 3, 0xfddca9f4a4ed3c62},
	{42, api.ForBoot, 0, 0, 0x3e4a12d70b0af178},
	{42, api.ForPick, 0, 0, 0x68fea42eee61becd},
	{42, api.ForShake, 0, 0, 0x15f4163333581662},
	{42, api.ForBoot, 1, 0, 0xdfe05acdaf69d627},
	{42, api.ForBoot, 0, 1, 0x71818ad83cba8f05},
	{most, most, most, most, 0x9c666618c8f279d7},
	{1 << 63, 7, 4095, 1 << 32, 0x95bf369266159ac4},
}

var knownNumbers = []struct{ key, i, number uint64 }{
	{0, 0, 0xa706dd2f4d197e6f},
	{0, 1, 0x5e41ab087439611e},
	{0, 2, 0x64684c4f0fd784b4},
	{0, 63, 0x17005d09a7d48745},
	{0, 1 << 32, 0xbff505763b60ad4e},
	{0, 1 << 63, 0x86db92e833b0c1a0},
	{0, most, 0x5dc20aa7b2a27137},
	{1, 0, 0x08b4fda8c892b50e},
	{1, 1, 0xe9fd6049d65af21e},
	{1, 2, 0xe06dd043328bd285},
	{most, 0, 0x2dd82c88fa32b270},
	{most, 1 << 32, 0x6528092dd7fea75b},
	{most, most, 0x6309143e67a47936},
	{0xfddca9f4a4ed3c62, 0, 0xacaecc20c39a0ac7},
	{0xfddca9f4a4ed3c62, 1, 0x9196a1dbfa339233},
	{0xfddca9f4a4ed3c62, 2, 0xc9e7f8956d25d053},
	{0xfddca9f4a4ed3c62, 63, 0x24e71d2bf0e1c4b9},
	{0xfddca9f4a4ed3c62, most, 0xf889f3005a0f0024},
}

// list is a source of the numbers of l, and of zeros behind them, which any draw takes: so taken tells where a draw came to its end.
type list struct {
	l     []uint64
	taken int
}

func (s *list) Next() uint64 {
	s.taken++
	if s.taken > len(s.l) {
		return 0
	}
	return s.l[s.taken-1]
}

// times is n times x, and more behind it.
func times(n int, x uint64, more ...uint64) []uint64 {
	l := make([]uint64, n, n+len(more))
	for i := range l {
		l[i] = x
	}
	return append(l, more...)
}

// howMany is how many numbers, from 0 on, will do below n: n times the whole part of 2^64 divided by n. It may be 2^64 itself.
func howMany(n uint64) *big.Int {
	b := new(big.Int).SetUint64(n)
	q := new(big.Int).Div(new(big.Int).Lsh(big.NewInt(1), 64), b)
	return q.Mul(q, b)
}

// lasts is how many numbers there are at the end that won't do below n.
func lasts(n uint64) uint64 {
	all := new(big.Int).Lsh(big.NewInt(1), 64)
	return all.Sub(all, howMany(n)).Uint64()
}

// takes tells whether x will do below n, and what is drawn then.
func takes(t *testing.T, x, n uint64) (uint64, bool) {
	t.Helper()
	src := &list{l: []uint64{x}}
	y, e := Below(src, n)
	if e != api.OK {
		t.Fatalf("of %d below %d: error %d", x, n, e)
	}
	return y, src.taken == 1
}

// bounds are small numbers, powers of 2 and those beside them, and numbers near 2^63 and 2^64 - 1.
func bounds() []uint64 {
	l := []uint64{most, most - 1, most - 2, most / 3, most/3 + 1, most / 5, most / 10, 0x9e3779b97f4a7c15}
	for n := range uint64(300) {
		l = append(l, n+1)
	}
	for i := 9; i < 64; i++ {
		bit := uint64(1) << i
		l = append(l, bit-1, bit, bit+1)
	}
	return l
}

// P2.1: Key.
func TestKnownKeys(t *testing.T) {
	for _, k := range knownKeys {
		if key := Key(k.seed, k.purpose, k.tree, k.node); key != k.key {
			t.Errorf("Key(%d, %d, %d, %d) = %x, not %x", k.seed, k.purpose, k.tree, k.node, key, k.key)
		}
	}
}

// P2.1: each of the four counts for the key, and so does where it stands.
func TestUnlikeKeys(t *testing.T) {
	type what [4]uint64
	had := map[uint64]what{}
	some := []uint64{0, 1, 2, 3, 4, 4095, 1 << 32, most}
	for _, seed := range some {
		for _, purpose := range some {
			for _, tree := range some {
				for _, node := range some {
					w := what{seed, purpose, tree, node}
					key := Key(seed, purpose, tree, node)
					if other, ok := had[key]; ok {
						t.Errorf("%v and %v have one key, %x", other, w, key)
					}
					had[key] = w
				}
			}
		}
	}
}

// P2.1: At.
func TestKnownNumbers(t *testing.T) {
	for _, k := range knownNumbers {
		if x := At(k.key, k.i); x != k.number {
			t.Errorf("At(%x, %x) = %x, not %x", k.key, k.i, x, k.number)
		}
	}
}

// P2.1: New, Next, Taken.
func TestStreamHandsOutItsKeysNumbers(t *testing.T) {
	for _, k := range knownKeys {
		s := New(k.key)
		for i := range uint64(300) {
			if s.Taken() != i || s.Taken() != i {
				t.Fatalf("%d are taken, not %d", s.Taken(), i)
			}
			if x, want := s.Next(), At(k.key, i); x != want {
				t.Fatalf("key %x, number %d: %x, not %x", k.key, i, x, want)
			}
		}
	}
	s := New(0)
	for i := range uint64(3) {
		if x, want := s.Next(), knownNumbers[i].number; x != want {
			t.Errorf("number %d: %x, not %x", i, x, want)
		}
	}
}

// P2.1: two streams, of one key and of unlike ones, asked in turns.
func TestStreamsGoOnByThemselves(t *testing.T) {
	for _, keys := range [][2]uint64{{7, 7}, {7, 8}, {0, most}} {
		a, b := New(keys[0]), New(keys[1])
		for i := range uint64(50) {
			first, second, third := a.Next(), b.Next(), a.Next()
			if first != At(keys[0], 2*i) || second != At(keys[1], i) || third != At(keys[0], 2*i+1) {
				t.Errorf("keys %x, turn %d: %x, %x, %x", keys, i, first, second, third)
			}
			if a.Taken() != 2*i+2 || b.Taken() != i+1 {
				t.Errorf("keys %x, turn %d: %d and %d are taken", keys, i, a.Taken(), b.Taken())
			}
		}
	}
}

// P2.1: Below, with what it takes.
func TestBelow(t *testing.T) {
	for _, c := range []struct {
		name  string
		l     []uint64
		n     uint64
		want  uint64
		e     api.Errno
		taken int
	}{
		{"example: the second one", []uint64{most, 7}, 10, 7, api.OK, 2},
		{"example: the first one", []uint64{most, 7}, 8, 7, api.OK, 1},
		{"0", []uint64{5}, 0, 0, api.ErrArg, 0},
		{"1, of the least", []uint64{0}, 1, 0, api.OK, 1},
		{"1, of the greatest", []uint64{most}, 1, 0, api.OK, 1},
		{"2, of the greatest", []uint64{most}, 2, 1, api.OK, 1},
		{"2^32, of the greatest", []uint64{most}, 1 << 32, 1<<32 - 1, api.OK, 1},
		{"2^63, of the greatest", []uint64{most}, 1 << 63, 1<<63 - 1, api.OK, 1},
		{"10, what is left", []uint64{25}, 10, 5, api.OK, 1},
		{"10, the last that will do", []uint64{most - 6}, 10, 9, api.OK, 1},
		{"10, the first that won't", []uint64{most - 5, 1}, 10, 1, api.OK, 2},
		{"3, the last that will do", []uint64{most - 1}, 3, 2, api.OK, 1},
		{"3, the one that won't", []uint64{most, 4}, 3, 1, api.OK, 2},
		{"2^63 - 1, the last that will do", []uint64{most - 2}, 1<<63 - 1, 1<<63 - 2, api.OK, 1},
		{"2^63 - 1, the first that won't", []uint64{most - 1, most, 1<<63 - 1}, 1<<63 - 1, 0, api.OK, 3},
		{"2^63 + 1, the last that will do", []uint64{1 << 63}, 1<<63 + 1, 1 << 63, api.OK, 1},
		{"2^63 + 1, the first that won't", []uint64{1<<63 + 1, most, 5}, 1<<63 + 1, 5, api.OK, 3},
		{"2^64 - 2, those that won't", []uint64{most, most - 1, most - 2}, most - 1, most - 2, api.OK, 3},
		{"2^64 - 1, the one that won't", []uint64{most, most - 1}, most, most - 1, api.OK, 2},
		{"the first of 64 will do", append([]uint64{8}, times(63, most)...), 3, 2, api.OK, 1},
		{"the last of 64 will do", times(63, most, 8), 3, 2, api.OK, 64},
		{"none of 64 will do", times(64, most), 3, 0, api.ErrDraw, 64},
		{"the one behind 64 would do", times(64, most, 8), 3, 0, api.ErrDraw, 64},
		{"none of 64 will do below 2^64 - 1", times(64, most), most, 0, api.ErrDraw, 64},
		{"none of 64 will do below 2^63 + 1", times(64, 1<<63+1), 1<<63 + 1, 0, api.ErrDraw, 64},
	} {
		src := &list{l: c.l}
		y, e := Below(src, c.n)
		if y != c.want || e != c.e || src.taken != c.taken {
			t.Errorf("%s: %d, error %d, %d taken; not %d, error %d, %d taken", c.name, y, e, src.taken, c.want, c.e, c.taken)
		}
	}
}

// P2.1: a source goes on where the draw ahead left it, one that failed too.
func TestDrawsComeOneBehindTheOther(t *testing.T) {
	src := &list{l: append([]uint64{25, most, 31}, times(64, most, 47)...)}
	for i, c := range []struct {
		n, want uint64
		e       api.Errno
		taken   int
	}{
		{10, 5, api.OK, 1},
		{0, 0, api.ErrArg, 1},
		{10, 1, api.OK, 3},
		{10, 0, api.ErrDraw, 67},
		{0, 0, api.ErrArg, 67},
		{10, 7, api.OK, 68},
	} {
		y, e := Below(src, c.n)
		if y != c.want || e != c.e || src.taken != c.taken {
			t.Errorf("draw %d: %d, error %d, %d taken", i, y, e, src.taken)
		}
	}
}

// P2.1: a stream is a source, and tells what draws took of it.
func TestBelowOfStreams(t *testing.T) {
	for _, n := range bounds() {
		s, will := New(n), howMany(n)
		at := uint64(0)
		for range 20 {
			for will.Cmp(new(big.Int).SetUint64(At(n, at))) <= 0 {
				at++
			}
			y, e := Below(s, n)
			if want := At(n, at) % n; y != want || e != api.OK {
				t.Fatalf("below %d: %d, error %d; not %d", n, y, e, want)
			}
			at++
			if s.Taken() != at {
				t.Fatalf("below %d: %d are taken, not %d", n, s.Taken(), at)
			}
		}
	}
	s := New(3)
	if y, e := Below(s, 0); y != 0 || e != api.ErrArg || s.Taken() != 0 {
		t.Errorf("below 0: %d, error %d, %d taken", y, e, s.Taken())
	}
}

// P2.2: just those will do that are below n times the whole part of 2^64 divided by n, so each below n has as many: that whole part.
func TestWhichNumbersWillDo(t *testing.T) {
	for _, n := range bounds() {
		bad := lasts(n)
		last := most - bad
		for _, x := range []uint64{0, 1, n - 1, n, n + 1, last / 2, last - 1, last, last + 1, most - 1, most} {
			y, ok := takes(t, x, n)
			if want := howMany(n).Cmp(new(big.Int).SetUint64(x)) > 0; ok != want {
				t.Errorf("%d below %d will do: %t", x, n, ok)
			} else if ok && y != x%n {
				t.Errorf("%d below %d: %d", x, n, y)
			}
		}
	}
}

// P2.2: of numbers below 2000 at the beginning, and of those at the end, each is drawn as often as any other.
func TestFairBelowSmallNumbers(t *testing.T) {
	const rounds = 3
	for _, n := range []uint64{1, 2, 3, 5, 6, 7, 8, 10, 16, 17, 100, 255, 256, 257, 641, 1000, 1024, 1999} {
		bad := lasts(n)
		first, last := make([]int, n), make([]int, n)
		refused := uint64(0)
		for i := range rounds * n {
			if y, ok := takes(t, i, n); ok {
				first[y]++
			}
		}
		for i := range rounds*n + bad {
			if y, ok := takes(t, most-i, n); ok {
				last[y]++
			} else {
				refused++
			}
		}
		if refused != bad {
			t.Errorf("below %d: %d won't do, not %d", n, refused, bad)
		}
		for y := range n {
			if first[y] != rounds || last[y] != rounds {
				t.Errorf("below %d: %d is drawn for %d and %d, not for %d", n, y, first[y], last[y], rounds)
			}
		}
	}
}

// P2.2: below great numbers each is drawn for few, and all of them are looked at.
func TestFairBelowGreatNumbers(t *testing.T) {
	for _, n := range []uint64{
		most, most - 1, most - 100, 1<<63 - 1, 1 << 63, 1<<63 + 1, most / 3, most/3 + 1,
		1 << 62, 1<<62 + 1, 1<<62 - 1, most / 100, 1 << 57, 1<<57 + 3, 0x9e3779b97f4a7c15,
	} {
		each := most / n // how often n goes into 2^64, for all but powers of 2
		if lasts(n) == 0 {
			each++
		}
		bad := lasts(n)
		for _, y := range []uint64{0, 1, 2, bad - 1, bad, bad + 1, n / 2, n - 2, n - 1} {
			y %= n
			got := uint64(0)
			for x := y; ; x += n {
				if z, ok := takes(t, x, n); ok && z == y {
					got++
				}
				if x > most-n {
					break
				}
			}
			if got != each {
				t.Errorf("below %d: %d is drawn for %d numbers, not for %d", n, y, got, each)
			}
		}
	}
}

// R5: what is answered hangs on the arguments alone.
func TestTheSameAgain(t *testing.T) {
	for _, n := range bounds() {
		a, b := New(n^5), New(n^5)
		x, e := Below(a, n)
		y, f := Below(b, n)
		if x != y || e != f || a.Taken() != b.Taken() {
			t.Errorf("below %d: %d and %d, errors %d and %d", n, x, y, e, f)
		}
	}
}
