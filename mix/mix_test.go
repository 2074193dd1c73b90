package mix

import (
	"math/bits"
	"slices"
	"testing"
)

const most = 1<<64 - 1

// The mixes here were worked out apart from this program.
var known = []struct{ x, mix uint64 }{
	{0, 0xe220a8397b1dcdaf},
	{0x9e3779b97f4a7c15, 0x6e789e6aa1b965f4},
	{1, 0x910a2dec89025cc1},
	{2, 0x975835de1c9756ce},
	{3, 0x1d0b14e4db018fed},
	{10, 0x088712be8a582fca},
	{1 << 32, 0xc42c5a1aa3820138},
	{1 << 63, 0x481ec0a212a9f3db},
	{most - 1, 0xf3203e9039f4a821},
	{most, 0xe4d971771b652c20},
	{0x61c8864680b583eb, 0}, // with what is added it goes round to 0
}

// sequence is what is told elsewhere of the numbers that begin at 1234567.
var sequence = []uint64{
	6457827717110365317, 3203168211198807973, 9817491932198370423,
	4593380528125082431, 16408922859458223821,
}

// plainMix is the chapter's text word for word, with no step shared with the package.
func plainMix(x uint64) uint64 {
	z := x + 0x9e3779b97f4a7c15
	z ^= z / (1 << 30)
	z *= 0xbf58476d1ce4e5b9
	z ^= z / (1 << 27)
	z *= 0x94d049bb133111eb
	z ^= z / (1 << 31)
	return z
}

// samples are edges, single bits, single bits missing, runs of bits, small numbers, and numbers from all over.
func samples() []uint64 {
	l := []uint64{0, most}
	for i := range 64 {
		bit := uint64(1) << i
		l = append(l, bit, ^bit, bit-1, -bit)
	}
	for i := range uint64(1000) {
		l = append(l, i, most-i, i*0x9e3779b97f4a7c15, i*i*i*0xd1342543de82ef95+i)
	}
	slices.Sort(l)
	return slices.Compact(l)
}

// P1.1: Mix.
func TestMixOfKnownNumbers(t *testing.T) {
	for _, k := range known {
		if y := Mix(k.x); y != k.mix {
			t.Errorf("Mix(%x) = %x, not %x", k.x, y, k.mix)
		}
	}
	x := uint64(1234567)
	for i, want := range sequence {
		if y := Mix(x); y != want {
			t.Errorf("number %d: %d, not %d", i, y, want)
		}
		x += 0x9e3779b97f4a7c15
	}
}

// P1.1: Mix.
func TestMixIsAsTheChapterSays(t *testing.T) {
	for _, x := range samples() {
		if y := Mix(x); y != plainMix(x) {
			t.Errorf("Mix(%x) = %x, not %x", x, y, plainMix(x))
		}
	}
}

// P1.1: Back.
func TestBackOfKnownMixes(t *testing.T) {
	for _, k := range known {
		if x := Back(k.mix); x != k.x {
			t.Errorf("Back(%x) = %x, not %x", k.mix, x, k.x)
		}
	}
}

// P1.1 and P1.2: two numbers with one mix would have one way back; and each number is the mix of one.
func TestThereAndBack(t *testing.T) {
	for _, x := range samples() {
		if z := Back(Mix(x)); z != x {
			t.Errorf("Back(Mix(%x)) = %x", x, z)
		}
		if z := plainMix(Back(x)); z != x {
			t.Errorf("the mix of Back(%x) is %x", x, z)
		}
		if z := Mix(Back(x)); z != x {
			t.Errorf("Mix(Back(%x)) = %x", x, z)
		}
	}
}

// P1.2.
func TestUnlikeNumbersHaveUnlikeMixes(t *testing.T) {
	had := map[uint64]uint64{}
	look := func(x uint64) {
		y := Mix(x)
		if other, ok := had[y]; ok && other != x {
			t.Errorf("%x and %x have one mix, %x", other, x, y)
		}
		had[y] = x
	}
	for _, x := range samples() {
		look(x)
	}
	for i := range uint64(1 << 16) {
		look(i)
		look(i << 48)
		look(bits.Reverse64(i))
	}
}

// P1.2: numbers that are unlike in a single bit, wherever it stands.
func TestOneBitMakesAnotherMix(t *testing.T) {
	for _, x := range samples() {
		for i := range 64 {
			if Mix(x) == Mix(x^1<<i) {
				t.Errorf("%x and %x have one mix", x, x^1<<i)
			}
		}
	}
}

// P1.2: each step by itself can be gone back.
func TestRoundsHaveTheirWayBack(t *testing.T) {
	for _, r := range rounds {
		if r.factor*r.undo != 1 {
			t.Errorf("%x times %x is %x", r.factor, r.undo, r.factor*r.undo)
		}
	}
	for shift := uint(1); shift < 64; shift++ {
		for _, x := range samples() {
			if z := unshift(x^x>>shift, shift); z != x {
				t.Fatalf("shifted by %d: %x, not %x", shift, z, x)
			}
		}
	}
}

// P1.1: Fold.
func TestFoldOfKnownNumbers(t *testing.T) {
	for _, c := range []struct {
		l    []uint64
		want uint64
	}{
		{nil, 0},
		{[]uint64{}, 0},
		{[]uint64{0}, 0xe220a8397b1dcdaf},
		{[]uint64{1}, 0x910a2dec89025cc1},
		{[]uint64{most}, 0xe4d971771b652c20},
		{[]uint64{0, 0}, 0xa706dd2f4d197e6f},
		{[]uint64{1, 2}, 0xbcd9dbb49673066b},
		{[]uint64{2, 1}, 0xe06dd043328bd285},
		{[]uint64{3, 4}, 0x9836d4cbef5e8891},
		{[]uint64{most, 0, most}, 0x9285c0ea60b3829b},
		{[]uint64{0, 0, 0, 0}, 0x2130748aaac80268},
		{[]uint64{1, 2, 3, 4}, 0xd55ccd4aeb3ccafb},
	} {
		if k := Fold(c.l...); k != c.want {
			t.Errorf("Fold(%x) = %x, not %x", c.l, k, c.want)
		}
	}
	if k := Fold(); k != 0 {
		t.Errorf("Fold() = %x", k)
	}
}

// P1.1: Fold, of long lists and of each of their beginnings.
func TestFoldGoesOnFromItsBeginning(t *testing.T) {
	l := samples()
	k := uint64(0)
	for i, n := range l[:500] {
		k = plainMix(k ^ n)
		if got := Fold(l[:i+1]...); got != k {
			t.Fatalf("of %d numbers: %x, not %x", i+1, got, k)
		}
	}
}

// R3 and R5: a list that is handed on stays as it was, and is folded the same again.
func TestFoldLeavesItsList(t *testing.T) {
	l := samples()
	was := slices.Clone(l)
	first := Fold(l...)
	if !slices.Equal(l, was) {
		t.Error("the list has changed")
	}
	if again := Fold(l...); again != first {
		t.Errorf("%x, and then %x", first, again)
	}
}
