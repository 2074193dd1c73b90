// Package mix is layer 1: see shared/doc/01-mix.md.
package mix

// start is added ahead of the rounds, lest the mix of 0 be 0.
const start = 0x9e3779b97f4a7c15

// round is one step of a mix: by how many bits a number is shifted onto itself, and by what it is multiplied then.
type round struct {
	shift  uint
	factor uint64
	undo   uint64 // factor times undo is 1, in 64 bits
}

// The last round only shifts: its factor 1 lets it be a round like the others.
var rounds = [3]round{
	{30, 0xbf58476d1ce4e5b9, 0x96de1b173f119089},
	{27, 0x94d049bb133111eb, 0x319642b2d24d8ec3},
	{31, 1, 1},
}

// Mix is a number's mix.
func Mix(x uint64) uint64 {
	z := x + start
	firstToLast(func(r round) { z = (z ^ z>>r.shift) * r.factor })
	return z
}

// Back is the number of a mix.
func Back(y uint64) uint64 {
	z := y
	lastToFirst(func(r round) { z = unshift(z*r.undo, r.shift) })
	return z - start
}

// Fold folds numbers.
func Fold(l ...uint64) uint64 {
	k := uint64(0)
	for _, n := range l {
		k = Mix(k ^ n)
	}
	return k
}

func firstToLast(step func(r round)) {
	for _, r := range rounds {
		step(r)
	}
}

func lastToFirst(step func(r round)) {
	for i := len(rounds) - 1; i >= 0; i-- {
		step(rounds[i])
	}
}

// unshift is the z of which z ^ z>>shift is y. The highest bits of y are z's own; each turn the next ones come right by those above them.
func unshift(y uint64, shift uint) uint64 {
	z := y
	for right := shift; right < 64; right += shift {
		z = y ^ z>>shift
	}
	return z
}
