package gini

import (
	"math"
	"math/big"
	"math/rand"
	"slices"
	"testing"

	"hornbeam/api"
)

const (
	top    = math.MaxInt64
	bottom = math.MinInt64
	most   = api.MaxRows
)

// mark is what stands behind lists that are handed in.
const mark = 4242

// widths are numbers of classes that there can be.
var widths = []int{2, 3, 4, 255, 256}

// roomy is the list, with room behind it that is written on, into which who appends would write.
func roomy(l []int64) []int64 { return append(slices.Clone(l), mark, mark)[:len(l)] }

// whole is a copy of a list that is roomy, with what stands behind it.
func whole(l []int64) []int64 { return slices.Clone(l[:len(l)+2]) }

// alike are counts that are all the same.
func alike(classes int, n int64) []int64 { return slices.Repeat([]int64{n}, classes) }

// with is the list with another number at a place.
func with(l []int64, place int, n int64) []int64 {
	l = slices.Clone(l)
	l[place] = n
	return l
}

// lone are counts of one class alone.
func lone(classes, place int, n int64) []int64 { return with(make([]int64, classes), place, n) }

// plus are counts so many of which are added at a place.
func plus(l []int64, place int, more int64) []int64 { return with(l, place, l[place]+more) }

// times are counts so many times.
func times(l []int64, n int64) []int64 {
	l = slices.Clone(l)
	for i := range l {
		l[i] *= n
	}
	return l
}

// both are both sides' counts together.
func both(left, right []int64) []int64 {
	l := slices.Clone(left)
	for i, n := range right {
		l[i] += n
	}
	return l
}

// frac is a fraction whose Num is below 2^64.
func frac(num, den uint64) api.Frac { return api.Frac{Num: api.Wide{Lo: num}, Den: den} }

// answers are what the calls that are handed one list answer.
type answers struct {
	may   bool
	alone api.Frac
	major int
	pure  bool
}

func asked(l []int64) answers {
	return answers{may: May(l), alone: Alone(l), major: Major(l), pure: Pure(l)}
}

// is holds what the calls answer, each time they are asked, and that what is handed in stays as it was.
func is(t *testing.T, l []int64, want answers) {
	t.Helper()
	l = roomy(l)
	was := whole(l)
	for range 2 {
		if a := asked(l); a != want {
			t.Fatalf("%v: %+v, not %+v", l, a, want)
		}
		if !slices.Equal(whole(l), was) {
			t.Fatalf("%v: written into: %v", was, whole(l))
		}
	}
}

// isTold holds what the calls answer, which is told.
func isTold(t *testing.T, l []int64) {
	t.Helper()
	is(t, l, told(l))
}

// scoreIs holds what Score answers, either way round, each time it is asked, and that what is handed in stays as it was.
func scoreIs(t *testing.T, left, right []int64, want api.Frac) {
	t.Helper()
	left, right = roomy(left), roomy(right)
	lefts, rights := whole(left), whole(right)
	for range 2 {
		if s := Score(left, right); s != want {
			t.Fatalf("%v, %v: %v, not %v", left, right, s, want)
		}
		if s := Score(right, left); s != want {
			t.Fatalf("%v, %v, the other way round: %v, not %v", left, right, s, want)
		}
		if !slices.Equal(whole(left), lefts) || !slices.Equal(whole(right), rights) {
			t.Fatalf("%v, %v: written into: %v, %v", lefts, rights, whole(left), whole(right))
		}
	}
}

// scoreIsTold holds what Score answers, which is told.
func scoreIsTold(t *testing.T, left, right []int64) {
	t.Helper()
	scoreIs(t, left, right, toldScore(left, right))
}

// great are how many targets there are and their squares, as great numbers; false, if these may not be counts.
func great(l []int64) (targets, squares *big.Int, may bool) {
	targets, squares = new(big.Int), new(big.Int)
	may = len(l) >= 2 && len(l) <= 256
	for _, n := range l {
		count := big.NewInt(n)
		may = may && count.Sign() >= 0
		targets.Add(targets, count)
		squares.Add(squares, new(big.Int).Mul(count, count))
	}
	return targets, squares, may && targets.Cmp(big.NewInt(1<<20)) <= 0
}

// fracOf is the fraction of two great numbers, that may be too great for it.
func fracOf(num, den *big.Int) api.Frac {
	if !num.IsUint64() || !den.IsUint64() {
		panic("beyond 64 bits")
	}
	return frac(num.Uint64(), den.Uint64())
}

// told is what the calls answer, by great numbers.
func told(l []int64) answers {
	targets, squares, may := great(l)
	if !may {
		return answers{}
	}
	a := answers{may: true}
	if targets.Sign() > 0 {
		a.alone = fracOf(squares, targets)
	}
	classes := 0
	for class, n := range l {
		if n > l[a.major] {
			a.major = class
		}
		if n > 0 {
			classes++
		}
	}
	a.pure = classes < 2
	return a
}

// toldScore is what Score answers, by great numbers.
func toldScore(left, right []int64) api.Frac {
	lefts, ours, mayLeft := great(left)
	rights, theirs, mayRight := great(right)
	den := new(big.Int).Mul(lefts, rights)
	if !mayLeft || !mayRight || len(left) != len(right) || den.Sign() == 0 {
		return api.Frac{}
	}
	num := new(big.Int).Mul(ours, rights)
	return fracOf(num.Add(num, new(big.Int).Mul(theirs, lefts)), den)
}

// tooFewOrMany are numbers of counts that there can't be.
func tooFewOrMany() [][]int64 {
	l := [][]int64{nil, {}}
	for _, classes := range []int{1, 257, 258, 511, 512, 65536} {
		l = append(l, alike(classes, 0), lone(classes, 0, 1), lone(classes, classes-1, 1), alike(classes, 1))
	}
	return append(l, []int64{5}, []int64{most})
}

// outOfBounds are counts of which one at each place is below 0, or above MaxRows, with none or one of each other class.
func outOfBounds() [][]int64 {
	l := [][]int64{}
	for _, classes := range widths {
		for place := range classes {
			for _, n := range []int64{-1, bottom, most + 1, top} {
				l = append(l, lone(classes, place, n), with(alike(classes, 1), place, n))
			}
		}
	}
	return l
}

// tooGreat are counts that are more than MaxRows together, each alone being no more than that, and such as are fewer than they were by a count below 0.
func tooGreat() [][]int64 {
	l := [][]int64{{most, 1}, {1, most}, {most / 2, most/2 + 1}, {most/2 + 1, most / 2}, {most, most}, {most, 0, 1}, {0, most - 1, 2}, {most - 1, 1, 1}, {most / 4, most / 4, most / 4, most/4 + 1}}
	l = append(l, []int64{-1, 1}, []int64{-1, 2}, []int64{5, -1}, []int64{-1, 5}, []int64{most + 1, -1}, []int64{-1, most + 1}, []int64{-5, most + 5, 0}, []int64{-most, most}, []int64{-1, -1})
	for place := range 256 {
		l = append(l, plus(alike(256, most/256), place, 1), plus(lone(256, 255-place, most), place, 1))
	}
	return append(l, alike(256, most/256+1), alike(256, most), alike(255, most/255+1), alike(3, most/3+1))
}

// goRound are counts that together go beyond 32 or 64 bits, of which some would come back to few, or to below 0, on the way or at the end.
func goRound() [][]int64 {
	l := [][]int64{{top, 1}, {1, top}, {top, top}, {top, top, 1}, {top, top, 2}, {top, top, 3}, {2, top, top}, {top, 2, top}, {top, top, 2 + most}, {top, 1, 1, top, 5}, {top, top, 2, top, top, 2, 7}}
	l = append(l, []int64{1 << 62, 1 << 62}, []int64{1<<62 - 1, 1 << 62}, alike(4, 1<<62), append(alike(4, 1<<62), 5), append([]int64{5}, alike(4, 1<<62)...), append(alike(8, 1<<62), most), append(alike(6, 1<<62), 3))
	l = append(l, alike(256, 1<<56), alike(256, 1<<55), alike(128, 1<<57), plus(alike(256, 1<<56), 200, 5), append(alike(128, 1<<57), 5), append(alike(128, 1<<56), 5))
	l = append(l, []int64{bottom, bottom}, []int64{bottom, bottom, 5}, []int64{bottom, top}, []int64{bottom, top, 1}, []int64{bottom, top, 2}, []int64{top, bottom, 6}, []int64{-1, bottom}, []int64{-1, bottom, top, 9})
	l = append(l, []int64{1 << 32, 0}, []int64{0, 1<<32 + 5}, []int64{1 << 31, 1 << 31}, []int64{1 << 31, 0}, []int64{1<<31 - 1, 1<<31 - 1, 2}, alike(256, 1<<24), alike(4, 1<<30), append(alike(4, 1<<30), 7), []int64{-1 << 31, 5}, []int64{-1 << 32, 5})
	return l
}

// mayNotBe are counts that may not be, by each of the ways.
func mayNotBe() [][]int64 {
	return slices.Concat(tooFewOrMany(), outOfBounds(), tooGreat(), goRound())
}

// mayBe are counts that may be: none, one and many, of one class at each place, of two classes and of all, alike and not.
func mayBe() [][]int64 {
	l := [][]int64{}
	for _, classes := range widths {
		last := classes - 1
		l = append(l, alike(classes, 0), alike(classes, 1), alike(classes, int64(most/classes)), plus(alike(classes, int64(most/classes)), last, int64(most%classes)))
		for place := range classes {
			for _, n := range []int64{1, 2, most - 1, most} {
				l = append(l, lone(classes, place, n))
			}
			next := (place + 1) % classes
			l = append(l, with(alike(classes, 1), place, 3), with(alike(classes, 1), place, 0), with(lone(classes, place, most-1), next, 1), with(lone(classes, place, most/2), next, most/2))
		}
	}
	return l
}

// anyCounts draws counts that may be, of so many together at most; about one class in two has none.
func anyCounts(r *rand.Rand, classes int, all int64) []int64 {
	l := make([]int64, classes)
	for left := r.Int63n(all + 1); left > 0; {
		n := 1 + r.Int63n(left)
		l[r.Intn(classes)] += n
		left -= n
	}
	return l
}

// P14.1: May: numbers of counts from none on, and counts at the bounds, one class's alone and several classes' together.
func TestMay(t *testing.T) {
	for classes := range 600 {
		if may := May(alike(classes, 1)); may != (classes >= 2 && classes <= 256) {
			t.Errorf("%d counts: %t", classes, may)
		}
	}
	for _, l := range mayNotBe() {
		if May(l) {
			t.Errorf("may be: %v", l)
		}
	}
	for _, l := range mayBe() {
		if !May(l) {
			t.Errorf("may not be: %v", l)
		}
	}
	for _, classes := range widths {
		for place := range classes {
			for _, other := range []int64{0, 1, most / 256} {
				l := with(alike(classes, other), place, 0)
				left := most - other*int64(classes-1) // as many as there is room for at the place
				for _, n := range []int64{0, 1, left - 1, left, left + 1, left + 2} {
					if may := May(with(l, place, n)); may != (n <= left) {
						t.Errorf("%d classes, %d at %d, else %d: %t", classes, n, place, other, may)
					}
				}
			}
		}
	}
}

// P14.1: May, Alone, Major and Pure: the chapter's example, and answers that are known.
func TestKnown(t *testing.T) {
	for _, x := range []struct {
		l        []int64
		num, den uint64
		major    int
		pure     bool
	}{
		{[]int64{2, 2}, 8, 4, 0, false},
		{[]int64{0, 0}, 0, 0, 0, true},
		{[]int64{0, 0, 0}, 0, 0, 0, true},
		{alike(256, 0), 0, 0, 0, true},
		{[]int64{1, 0}, 1, 1, 0, true},
		{[]int64{0, 1}, 1, 1, 1, true},
		{[]int64{0, 0, 1}, 1, 1, 2, true},
		{[]int64{0, 7, 0}, 49, 7, 1, true},
		{[]int64{1, 1}, 2, 2, 0, false},
		{[]int64{1, 1, 1}, 3, 3, 0, false},
		{[]int64{4, 4, 4}, 48, 12, 0, false},
		{alike(256, 1), 256, 256, 0, false},
		{alike(256, 2), 1024, 512, 0, false},
		{[]int64{1, 2}, 5, 3, 1, false},
		{[]int64{2, 1}, 5, 3, 0, false},
		{[]int64{1, 2, 3}, 14, 6, 2, false},
		{[]int64{1, 3, 2}, 14, 6, 1, false},
		{[]int64{3, 2, 1}, 14, 6, 0, false},
		{[]int64{1, 3, 3}, 19, 7, 1, false},
		{[]int64{3, 1, 3}, 19, 7, 0, false},
		{[]int64{3, 3, 1}, 19, 7, 0, false},
		{[]int64{0, 3, 0, 3}, 18, 6, 1, false},
		{[]int64{6, 0}, 36, 6, 0, true}, // not 6/1
		{[]int64{2, 4}, 20, 6, 1, false},
		{[]int64{0, 9, 1}, 82, 10, 1, false},
		{[]int64{most, 0}, 1 << 40, 1 << 20, 0, true},
		{[]int64{0, most}, 1 << 40, 1 << 20, 1, true},
		{lone(256, 255, most), 1 << 40, 1 << 20, 255, true},
		{[]int64{most - 1, 1}, 1099509530626, 1 << 20, 0, false},
		{[]int64{1, most - 1}, 1099509530626, 1 << 20, 1, false},
		{[]int64{most / 2, most / 2}, 1 << 39, 1 << 20, 0, false},
		{alike(256, most/256), 1 << 32, 1 << 20, 0, false},
		{with(alike(256, 1), 77, 2), 259, 257, 77, false},
	} {
		is(t, x.l, answers{may: true, alone: frac(x.num, x.den), major: x.major, pure: x.pure})
	}
}

// P14.1: May, Alone, Major and Pure, told by great numbers: counts that may be, at the edges, all small ones, and many others.
func TestTold(t *testing.T) {
	for _, l := range mayBe() {
		isTold(t, l)
	}
	for _, l := range small(2, 9) {
		isTold(t, l)
	}
	for _, l := range small(3, 5) {
		isTold(t, l)
	}
	for _, l := range small(4, 2) {
		isTold(t, l)
	}
	r := rand.New(rand.NewSource(14))
	for range 4000 {
		isTold(t, anyCounts(r, 2+r.Intn(8), int64(most)>>r.Intn(21)))
	}
	for range 200 {
		isTold(t, anyCounts(r, 2+r.Intn(255), most))
	}
}

// P14.1: of counts that may not be Alone is 0/0, Major 0, and Pure false.
func TestWrong(t *testing.T) {
	for _, l := range mayNotBe() {
		is(t, l, answers{})
	}
}

// P14.1: Major is the least of the classes that have the most, wherever they are: one, two and several, next to one another and apart.
func TestMajor(t *testing.T) {
	for _, classes := range []int{2, 3, 5, 256} {
		for first := range classes {
			for _, others := range [][]int{{}, {first + 1}, {classes - 1}, {first + 1, first + 2}, {first + 1, classes - 1}, {(first + classes) / 2, classes - 1}} {
				l := with(alike(classes, 6), first, 7)
				for _, place := range others {
					if place >= first && place < classes {
						l[place] = 7
					}
				}
				if class := Major(l); class != first {
					t.Fatalf("%v: %d, not %d", l, class, first)
				}
			}
		}
		if class := Major(alike(classes, 6)); class != 0 {
			t.Errorf("%d classes with as many: %d", classes, class)
		}
	}
}

// P14.1: Pure: one class alone at each place, and another one beside it, which has one target, or all others.
func TestPure(t *testing.T) {
	for _, classes := range widths {
		for place := range classes {
			for _, n := range []int64{0, 1, 2, most - 1, most} {
				if l := lone(classes, place, n); !Pure(l) {
					t.Fatalf("not pure: %v", l)
				}
			}
			for _, other := range []int{0, place - 1, place + 1, classes - 1} {
				if other < 0 || other >= classes || other == place {
					continue
				}
				for _, n := range []int64{1, 2, most - 2, most - 1} {
					if l := with(lone(classes, place, n), other, most-n); Pure(l) {
						t.Fatalf("pure: %v", l)
					}
					if l := with(lone(classes, place, n), other, 1); Pure(l) {
						t.Fatalf("pure: %v", l)
					}
				}
			}
		}
	}
}

// P14.1: Score: the chapter's example, and answers that are known, either way round.
func TestScoreKnown(t *testing.T) {
	for _, x := range []struct {
		left, right []int64
		num, den    uint64
	}{
		{[]int64{2, 0}, []int64{0, 2}, 16, 4},
		{[]int64{1, 0}, []int64{1, 0}, 2, 1}, // one target each, of the same class
		{[]int64{0, 1}, []int64{0, 1}, 2, 1},
		{[]int64{1, 0}, []int64{0, 1}, 2, 1}, // and of another one
		{[]int64{0, 0, 1}, []int64{1, 0, 0}, 2, 1},
		{[]int64{3, 0}, []int64{5, 0}, 120, 15}, // not 8/1
		{[]int64{3, 0}, []int64{0, 5}, 120, 15},
		{[]int64{1, 1}, []int64{2, 2}, 2*4 + 8*2, 8},
		{[]int64{1, 3}, []int64{2, 0}, 10*2 + 4*4, 8},
		{[]int64{1, 2}, []int64{2, 1}, 30, 9},
		{[]int64{1, 2}, []int64{1, 2}, 30, 9},
		{[]int64{1, 2}, []int64{10, 20}, 5*30 + 500*3, 90},
		{[]int64{1, 2, 3}, []int64{3, 0, 1}, 14*4 + 10*6, 24},
		{[]int64{2, 2, 2}, []int64{1, 0, 0}, 12 + 6, 6},
		{alike(256, 1), alike(256, 1), 256*256 + 256*256, 1 << 16},
		{lone(256, 0, 3), lone(256, 255, 2), 9*2 + 4*3, 6},
		{[]int64{most, 0}, []int64{1, 0}, 1<<40 + 1<<20, 1 << 20},
		{[]int64{most, 0}, []int64{0, 1}, 1<<40 + 1<<20, 1 << 20},
		{[]int64{0, most}, []int64{0, most}, 1 << 61, 1 << 40},
		{[]int64{most, 0, 0}, []int64{0, 0, most}, 1 << 61, 1 << 40},
		{[]int64{most / 2, most / 2}, []int64{most, 0}, 1<<59 + 1<<60, 1 << 40},
		{alike(256, most/256), alike(256, most/256), 1 << 53, 1 << 40},
		{alike(256, most/256), lone(256, 9, most), 1<<52 + 1<<60, 1 << 40},
		{[]int64{most - 1, 1}, []int64{1, 1}, 1099509530626*2 + 2<<20, 2 << 20},
	} {
		scoreIs(t, x.left, x.right, frac(x.num, x.den))
	}
}

// P14.1: Score, told by great numbers: sides at the edges, all small ones, and many others.
func TestScoreTold(t *testing.T) {
	for _, classes := range widths {
		l := slices.DeleteFunc(mayBe(), func(l []int64) bool { return len(l) != classes })
		for i, left := range l {
			for j := i; j < len(l); j += 1 + len(l)/10 {
				scoreIsTold(t, left, l[j])
			}
		}
	}
	r := rand.New(rand.NewSource(15))
	for range 3000 {
		classes := 2 + r.Intn(8)
		scoreIsTold(t, anyCounts(r, classes, int64(most)>>r.Intn(21)), anyCounts(r, classes, int64(most)>>r.Intn(21)))
	}
	for range 100 {
		classes := 2 + r.Intn(255)
		scoreIsTold(t, anyCounts(r, classes, most), anyCounts(r, classes, most))
	}
}

// P14.1: Score is 0/0 if a side may not be, by each of the ways, or has no targets, or both do, whatever the other one is.
func TestScoreNone(t *testing.T) {
	none := api.Frac{}
	for _, l := range mayNotBe() {
		scoreIs(t, l, l, none)
		for _, other := range [][]int64{alike(len(l), 1), alike(len(l), 0), {1, 2}, {0, 0}, {-1, 3}, nil} {
			scoreIs(t, l, other, none)
		}
		if len(l) > 0 {
			scoreIs(t, l, lone(len(l), len(l)-1, 1), none)
			scoreIs(t, l, lone(len(l), 0, most), none)
		}
	}
	for _, classes := range widths {
		empty := alike(classes, 0)
		scoreIs(t, empty, empty, none)
		scoreIs(t, empty, alike(classes, 1), none)
		scoreIs(t, empty, lone(classes, classes-1, most), none)
	}
}

// P14.1: Score is 0/0 if both sides may be, but have unlike numbers of classes, also where those beyond have no targets.
func TestScoreUnlike(t *testing.T) {
	for _, classes := range widths {
		for _, others := range []int{2, 3, 4, 5, 254, 255, 256} {
			if others == classes {
				continue
			}
			for _, n := range []int64{0, 1, most / 256} {
				scoreIs(t, alike(classes, 1), alike(others, n), api.Frac{})
			}
			scoreIs(t, lone(classes, 0, 2), lone(others, 0, 2), api.Frac{})
			scoreIs(t, lone(classes, 1, most), lone(others, 1, most), api.Frac{})
		}
	}
}

// P14.1: Score of a list with itself, which is twice as well apart as it is alone.
func TestScoreSame(t *testing.T) {
	for _, l := range mayBe() {
		want := toldScore(l, slices.Clone(l))
		if s := Score(l, l); s != want {
			t.Fatalf("%v with itself: %v, not %v", l, s, want)
		}
	}
}

// small are all counts of so many classes of which none is above a number.
func small(classes int, highest int64) [][]int64 {
	l := [][]int64{{}}
	for range classes {
		longer := [][]int64{}
		for _, x := range l {
			for n := range highest + 1 {
				longer = append(longer, append(slices.Clone(x), n))
			}
		}
		l = longer
	}
	return l
}

// count is how many targets there are together, of counts that are no more than MaxRows each.
func count(l []int64) int64 {
	all := int64(0)
	for _, n := range l {
		all += n
	}
	return all
}

// sharesAlike tells whether each class's share is the same on both sides; the products stay below 2^63.
func sharesAlike(left, right []int64) bool {
	lefts, rights := count(left), count(right)
	for i := range left {
		if left[i]*rights != right[i]*lefts {
			return false
		}
	}
	return true
}

// number is the number that a fraction is.
func number(f api.Frac) *big.Rat {
	num := new(big.Int).Lsh(new(big.Int).SetUint64(f.Num.Hi), 64)
	num.Add(num, new(big.Int).SetUint64(f.Num.Lo))
	return new(big.Rat).SetFrac(num, new(big.Int).SetUint64(f.Den))
}

// apartIs holds how two sides, both with targets, are apart, held against both together: as much is 0, and more is 1.
func apartIs(t *testing.T, left, right []int64, want int) {
	t.Helper()
	score, alone := Score(left, right), Alone(both(left, right))
	if score.Den == 0 || alone.Den == 0 {
		t.Fatalf("%v, %v: %v, together %v", left, right, score, alone)
	}
	if c := number(score).Cmp(number(alone)); c != want {
		t.Fatalf("%v, %v: %v, together %v: %d, not %d", left, right, score, alone, c, want)
	}
}

// apartIsTold holds the same, told by the shares; sides of which one has no targets, or which may not be together, are left out.
func apartIsTold(t *testing.T, left, right []int64) {
	t.Helper()
	lefts, rights := count(left), count(right)
	if lefts == 0 || rights == 0 || lefts+rights > most {
		return
	}
	want := 1
	if sharesAlike(left, right) {
		want = 0
	}
	apartIs(t, left, right, want)
	apartIs(t, right, left, want)
}

// P14.2: all small sides of 2, 3 and 4 classes.
func TestNeverWorseSmall(t *testing.T) {
	for _, l := range [][][]int64{small(2, 9), small(3, 3), small(4, 1)} {
		for _, left := range l {
			for _, right := range l {
				apartIsTold(t, left, right)
			}
		}
	}
}

// P14.2: as much where the shares are alike, also where one side is the other one many times; more by one target alone.
func TestNeverWorseByOne(t *testing.T) {
	for _, l := range [][]int64{{1, 1}, {1, 0}, {0, 1}, {1, 2}, {7, 3}, {1, 1, 1}, {0, 2, 1}, {5, 0, 0}, {2, 3, 5, 7}, alike(256, 1), lone(256, 200, 1), plus(alike(256, 1), 0, 1)} {
		all := count(l)
		for _, a := range []int64{1, 2, 3, 64} {
			for _, b := range []int64{1, 2, 5, 1000, most/all - a, most/all - a - 1} {
				if b < 1 || (a+b)*all > most {
					continue
				}
				left, right := times(l, a), times(l, b)
				apartIs(t, left, right, 0)
				apartIs(t, right, left, 0)
				for place := range l {
					apartIsTold(t, plus(left, place, 1), right)
					apartIsTold(t, left, plus(right, place, 1))
				}
			}
		}
	}
	for _, x := range [][2][]int64{
		{{2, 2}, {2, 3}}, {{1, 0}, {1, 1}}, {{1, 0}, {0, 1}}, {{1, 0}, {most - 2, 1}}, {{0, 1}, {most - 2, 1}},
		{{most / 2, 0}, {most/2 - 1, 1}}, {{most / 4, most / 4}, {most / 4, most/4 - 1}}, {{most/2 - 1, 0, 1}, {most / 2, 0, 0}},
		{alike(256, most/512), plus(alike(256, most/512), 7, -1)}, {alike(256, most/512), plus(plus(alike(256, most/512), 7, -1), 8, 1)},
	} {
		apartIs(t, x[0], x[1], 1)
		apartIs(t, x[1], x[0], 1)
	}
}

// P14.2: great sides, up to MaxRows together.
func TestNeverWorseGreat(t *testing.T) {
	r := rand.New(rand.NewSource(16))
	for range 4000 {
		classes := 2 + r.Intn(6)
		all := anyCounts(r, classes, most)
		left, right := make([]int64, classes), make([]int64, classes)
		for i, n := range all {
			left[i] = r.Int63n(n + 1)
			right[i] = n - left[i]
		}
		apartIsTold(t, left, right)
	}
	for _, classes := range widths {
		half := alike(classes, int64(most/2/classes))
		apartIs(t, half, half, 0)
		apartIs(t, lone(classes, 0, most/2), lone(classes, classes-1, most/2), 1)
		apartIs(t, lone(classes, 1, most/2), lone(classes, 1, most/2), 0)
		apartIs(t, lone(classes, 1, most-1), lone(classes, 1, 1), 0)
		apartIs(t, lone(classes, 1, most-1), lone(classes, 0, 1), 1)
	}
}
