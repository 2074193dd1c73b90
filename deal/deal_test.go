package deal

import (
	"fmt"
	"math"
	"slices"
	"testing"

	"hornbeam/api"
	"hornbeam/mix"
	"hornbeam/stream"
)

const most = 1<<64 - 1

// list is a source of the numbers of l, and of zeros behind them, which any draw takes: so taken tells how many a call took.
type list struct {
	l     []uint64
	taken int
}

func (s *list) Next() uint64 {
	s.taken++
	if s.taken > len(s.l) {
		return 0
	}
	return s.l[s.taken-1]
}

// times is n times x, and more behind it.
func times(n int, x uint64, more ...uint64) []uint64 {
	return append(slices.Repeat([]uint64{x}, n), more...)
}

// refused is how many numbers, at the end of all, won't do below bound: what is left of 2^64 divided by it. Of a power of 2 there are none.
func refused(bound uint64) uint64 {
	return (most%bound + 1) % bound
}

// call is one call, with what the chapter says of it: below which bounds it draws, in order, and what it answers of what was drawn.
type call struct {
	name   string
	run    func(src api.Source) ([]int, api.Errno)
	bounds []uint64
	answer func(drawn []int) []int
}

func upTo(n int) []int {
	l := []int{}
	for i := range n {
		l = append(l, i)
	}
	return l
}

func permCall(n int) call {
	c := call{name: fmt.Sprintf("Perm(%d)", n)}
	c.run = func(src api.Source) ([]int, api.Errno) { return Perm(src, n) }
	for i := n - 1; i >= 1; i-- {
		c.bounds = append(c.bounds, uint64(i+1))
	}
	c.answer = func(drawn []int) []int {
		l := upTo(n)
		for i := n - 1; i >= 1; i-- {
			j := drawn[0]
			drawn = drawn[1:]
			l[i], l[j] = l[j], l[i]
		}
		return l
	}
	return c
}

func chooseCall(n, k int) call {
	c := call{name: fmt.Sprintf("Choose(%d, %d)", n, k)}
	c.run = func(src api.Source) ([]int, api.Errno) { return Choose(src, n, k) }
	for i := range k {
		c.bounds = append(c.bounds, uint64(n-i))
	}
	c.answer = func(drawn []int) []int { // one is taken out, and the first of the rest goes to where it stood
		rest, chosen := upTo(n), []int{}
		for _, d := range drawn {
			chosen = append(chosen, rest[d])
			rest[d] = rest[0]
			rest = rest[1:]
		}
		slices.Sort(chosen)
		return chosen
	}
	return c
}

func dealCall(n int) call {
	c := call{name: fmt.Sprintf("Deal(%d)", n)}
	c.run = func(src api.Source) ([]int, api.Errno) { return Deal(src, n) }
	for range n {
		c.bounds = append(c.bounds, uint64(n))
	}
	c.answer = func(drawn []int) []int {
		l := []int{}
		for row := range n {
			weight := 0
			for _, d := range drawn {
				if d == row {
					weight++
				}
			}
			l = append(l, weight)
		}
		return l
	}
	return c
}

// calls are all calls of n.
func calls(n int) []call {
	l := []call{permCall(n), dealCall(n)}
	for k := range n + 1 {
		l = append(l, chooseCall(n, k))
	}
	return l
}

// wants tells whether a call answers l of a source, without error, and has taken so many numbers of it.
func wants(t *testing.T, c call, numbers []uint64, want []int, taken int) {
	t.Helper()
	src := &list{l: numbers}
	l, e := c.run(src)
	if e != api.OK || !slices.Equal(l, want) || src.taken != taken {
		t.Errorf("%s of %d: %d, error %d, %d taken; not %d, %d taken", c.name, numbers, l, e, src.taken, want, taken)
	}
}

// P3.1: the chapter's examples, and some by hand.
func TestExamples(t *testing.T) {
	for _, x := range []struct {
		c       call
		numbers []uint64
		want    []int
	}{
		{permCall(3), []uint64{0, 0}, []int{1, 2, 0}},
		{chooseCall(3, 2), []uint64{0, 0}, []int{0, 1}},
		{dealCall(3), []uint64{0, 0, 0}, []int{3, 0, 0}},

		{permCall(4), []uint64{1, 0, 1}, []int{2, 3, 0, 1}},
		{permCall(4), []uint64{3, 2, 1}, []int{0, 1, 2, 3}},
		{permCall(4), []uint64{7, 5, 3}, []int{0, 1, 2, 3}},
		{permCall(3), []uint64{most, 1, most}, []int{0, 2, 1}},
		{permCall(2), []uint64{most}, []int{0, 1}},
		{permCall(2), []uint64{most - 1}, []int{1, 0}},
		{chooseCall(5, 3), []uint64{3, 0, 2}, []int{1, 3, 4}},
		{chooseCall(5, 3), []uint64{4, 3, 2}, []int{0, 1, 4}},
		{chooseCall(5, 1), []uint64{most, 14}, []int{4}},
		{chooseCall(2, 2), []uint64{1, most}, []int{0, 1}},
		{dealCall(4), []uint64{0, 5, 2, 6}, []int{1, 1, 2, 0}},
		{dealCall(3), []uint64{2, most, 2, 5}, []int{0, 0, 3}},
	} {
		wants(t, x.c, x.numbers, x.want, len(x.numbers))
	}
}

// P3.1: of streams. The answers were worked out apart from this program.
func TestKnownAnswers(t *testing.T) {
	for _, x := range []struct {
		key  uint64
		c    call
		want []int
	}{
		{0, permCall(2), []int{0, 1}},
		{0, permCall(3), []int{1, 2, 0}},
		{0, permCall(7), []int{0, 5, 4, 3, 1, 6, 2}},
		{9, permCall(12), []int{8, 1, 4, 7, 11, 6, 10, 5, 0, 9, 3, 2}},
		{most, permCall(12), []int{6, 4, 11, 9, 2, 1, 0, 10, 7, 5, 3, 8}},
		{0, chooseCall(5, 2), []int{0, 3}},
		{9, chooseCall(5, 2), []int{1, 2}},
		{most, chooseCall(12, 5), []int{2, 4, 7, 8, 10}},
		{9, chooseCall(12, 12), []int{0, 1, 2, 3, 4, 5, 6, 7, 8, 9, 10, 11}},
		{9, chooseCall(1024, 6), []int{79, 293, 442, 510, 667, 950}},
		{most, chooseCall(api.MaxRows, 4), []int{176752, 537607, 793671, 1042545}},
		{0, dealCall(2), []int{1, 1}},
		{9, dealCall(2), []int{2, 0}},
		{0, dealCall(7), []int{3, 0, 1, 0, 1, 1, 1}},
		{9, dealCall(12), []int{0, 1, 2, 0, 1, 2, 1, 0, 2, 2, 0, 1}},
		{most, dealCall(12), []int{0, 1, 1, 0, 1, 1, 1, 2, 2, 1, 1, 1}},
	} {
		s := stream.New(x.key)
		l, e := x.c.run(s)
		if e != api.OK || !slices.Equal(l, x.want) || s.Taken() != uint64(len(x.c.bounds)) {
			t.Errorf("%s of key %x: %d, error %d, %d taken; not %d", x.c.name, x.key, l, e, s.Taken(), x.want)
		}
	}
}

// fold is one number of all of l, in order.
func fold(l []int) uint64 {
	k := uint64(0)
	for _, x := range l {
		k = mix.Mix(k ^ uint64(x))
	}
	return k
}

// P3.1 and P3.2: of as many rows as may be. The folds were worked out apart from this program.
func TestMaxRows(t *testing.T) {
	for _, x := range []struct {
		c     call
		long  int
		taken uint64
		fold  uint64
		look  func(t *testing.T, l []int, n int)
	}{
		{permCall(api.MaxRows), api.MaxRows, api.MaxRows - 1, 0x77dd9d967832e469, hasEachOnce},
		{chooseCall(api.MaxRows, api.MaxRows/2), api.MaxRows / 2, api.MaxRows / 2, 0x96e952bfcd37900e, isRisingBelow},
		{chooseCall(api.MaxRows, api.MaxRows), api.MaxRows, api.MaxRows, fold(upTo(api.MaxRows)), isRisingBelow},
		{chooseCall(api.MaxRows, 0), 0, 0, 0, isRisingBelow},
		{dealCall(api.MaxRows), api.MaxRows, api.MaxRows, 0x98e4989f75035662, addsUpTo},
	} {
		s := stream.New(9)
		l, e := x.c.run(s)
		if e != api.OK || len(l) != x.long || s.Taken() != x.taken || fold(l) != x.fold {
			t.Errorf("%s: %d, error %d, %d taken, fold %x", x.c.name, len(l), e, s.Taken(), fold(l))
		}
		x.look(t, l, api.MaxRows)
	}
}

// P3.1: which n may be, what is answered at their ends, and how many numbers are taken.
func TestHowManyThingsMayBe(t *testing.T) {
	for _, x := range []struct {
		n                    int
		e                    api.Errno
		long, permed, dealed int
	}{
		{math.MinInt, api.ErrArg, 0, 0, 0},
		{math.MinInt32, api.ErrArg, 0, 0, 0},
		{-1, api.ErrArg, 0, 0, 0},
		{0, api.OK, 0, 0, 0},
		{1, api.OK, 1, 0, 1},
		{2, api.OK, 2, 1, 2},
		{api.MaxRows, api.OK, api.MaxRows, api.MaxRows - 1, api.MaxRows},
		{api.MaxRows + 1, api.ErrArg, 0, 0, 0},
		{math.MaxInt32, api.ErrArg, 0, 0, 0},
		{math.MaxInt, api.ErrArg, 0, 0, 0},
	} {
		perm := func(src api.Source) ([]int, api.Errno) { return Perm(src, x.n) }
		deal := func(src api.Source) ([]int, api.Errno) { return Deal(src, x.n) }
		looksSo(t, fmt.Sprintf("Perm(%d)", x.n), perm, x.long, x.e, x.permed)
		looksSo(t, fmt.Sprintf("Deal(%d)", x.n), deal, x.long, x.e, x.dealed)
	}
}

// P3.1: which n and k may be, what is answered at their ends, and how many numbers are taken.
func TestHowManyMayBeChosen(t *testing.T) {
	for _, x := range []struct {
		n, k  int
		long  int
		e     api.Errno
		taken int
	}{
		{-1, 0, 0, api.ErrArg, 0},
		{-1, -1, 0, api.ErrArg, 0},
		{-1, -2, 0, api.ErrArg, 0},
		{math.MinInt, 0, 0, api.ErrArg, 0},
		{math.MinInt, math.MinInt, 0, api.ErrArg, 0},
		{0, -1, 0, api.ErrArg, 0},
		{0, 0, 0, api.OK, 0},
		{0, 1, 0, api.ErrArg, 0},
		{1, -1, 0, api.ErrArg, 0},
		{1, 0, 0, api.OK, 0},
		{1, 1, 1, api.OK, 1},
		{1, 2, 0, api.ErrArg, 0},
		{3, -1, 0, api.ErrArg, 0},
		{3, math.MinInt, 0, api.ErrArg, 0},
		{3, 0, 0, api.OK, 0},
		{3, 1, 1, api.OK, 1},
		{3, 3, 3, api.OK, 3},
		{3, 4, 0, api.ErrArg, 0},
		{3, math.MaxInt, 0, api.ErrArg, 0},
		{api.MaxRows, -1, 0, api.ErrArg, 0},
		{api.MaxRows, 0, 0, api.OK, 0},
		{api.MaxRows, 1, 1, api.OK, 1},
		{api.MaxRows, api.MaxRows, api.MaxRows, api.OK, api.MaxRows},
		{api.MaxRows, api.MaxRows + 1, 0, api.ErrArg, 0},
		{api.MaxRows + 1, 0, 0, api.ErrArg, 0},
		{api.MaxRows + 1, 1, 0, api.ErrArg, 0},
		{api.MaxRows + 1, api.MaxRows + 1, 0, api.ErrArg, 0},
		{math.MaxInt, 0, 0, api.ErrArg, 0},
		{math.MaxInt, math.MaxInt, 0, api.ErrArg, 0},
	} {
		run := func(src api.Source) ([]int, api.Errno) { return Choose(src, x.n, x.k) }
		looksSo(t, fmt.Sprintf("Choose(%d, %d)", x.n, x.k), run, x.long, x.e, x.taken)
	}
}

func looksSo(t *testing.T, name string, run func(src api.Source) ([]int, api.Errno), long int, e api.Errno, taken int) {
	t.Helper()
	src := &list{}
	l, f := run(src)
	if len(l) != long || f != e || src.taken != taken {
		t.Errorf("%s: %d long, error %d, %d taken; not %d long, error %d, %d taken", name, len(l), f, src.taken, long, e, taken)
	}
	if e != api.OK && l != nil {
		t.Errorf("%s: a list beside error %d", name, e)
	}
}

// P3.1: below which bounds draws are, in which order. Ahead of each draw stands the first number that won't do below its bound (if there is one), then the one to be drawn, of the last that will do: another bound would take other ones, or draw others.
func TestDrawsBelowTheirBounds(t *testing.T) {
	for _, n := range []int{0, 1, 2, 3, 4, 5, 6, 7, 8, 9, 13, 16, 17, 33} {
		for _, c := range calls(n) {
			for key := range uint64(4) {
				drawn, numbers := []int{}, []uint64{}
				for i, b := range c.bounds {
					d := stream.At(key, uint64(i)) % b
					drawn = append(drawn, int(d))
					bad := refused(b)
					if bad > 0 {
						numbers = append(numbers, most-bad+1)
					}
					numbers = append(numbers, most-bad-b+1+d)
				}
				wants(t, c, numbers, c.answer(drawn), len(numbers))
			}
		}
	}
}

// P3.1: each draw by itself: it alone draws another number than 0, as high as can be.
func TestEachDrawCounts(t *testing.T) {
	for _, n := range []int{2, 3, 4, 5, 6, 7, 12} {
		for _, c := range calls(n) {
			for at, b := range c.bounds {
				drawn := make([]int, len(c.bounds))
				drawn[at] = int(b) - 1
				numbers := times(len(c.bounds), 0)
				numbers[at] = b - 1
				wants(t, c, numbers, c.answer(drawn), len(numbers))
			}
		}
	}
}

// P3.1: a draw that fails, the first, the last or one in the middle, ends the call: nothing is drawn behind it.
func TestDrawsThatFail(t *testing.T) {
	for _, n := range []int{1, 2, 3, 4, 5, 6, 7, 8, 9, 12} {
		for _, c := range calls(n) {
			for at, b := range c.bounds {
				if refused(b) == 0 { // below a power of 2 each number will do
					continue
				}
				src := &list{l: times(at, 0, times(api.MaxDraws, most)...)}
				l, e := c.run(src)
				if l != nil || e != api.ErrDraw || src.taken != at+api.MaxDraws {
					t.Errorf("%s, draw %d fails: %d, error %d, %d taken", c.name, at, l, e, src.taken)
				}
				// one fewer that won't do, and the call goes on
				wants(t, c, times(at, 0, times(api.MaxDraws-1, most)...), c.answer(make([]int, len(c.bounds))), len(c.bounds)+api.MaxDraws-1)
			}
		}
	}
}

// same is a source of one number, again and again.
type same uint64

func (s same) Next() uint64 { return uint64(s) }

// P3.1: a source that only hands out the greatest number: powers of 2 take it, all others fail.
func TestSourceOfTheGreatestNumber(t *testing.T) {
	for n := range 40 {
		l, e := Deal(same(most), n)
		if n&(n-1) == 0 {
			want := make([]int, n)
			if n > 0 {
				want[n-1] = n
			}
			if e != api.OK || !slices.Equal(l, want) {
				t.Errorf("Deal(%d): %d, error %d", n, l, e)
			}
		} else if e != api.ErrDraw || l != nil {
			t.Errorf("Deal(%d): %d, error %d", n, l, e)
		}
		if p, e := Perm(same(most), n); n > 2 && (e != api.ErrDraw || p != nil) {
			t.Errorf("Perm(%d): %d, error %d", n, p, e)
		}
		if k, e := Choose(same(most), n, n); n > 2 && (e != api.ErrDraw || k != nil) {
			t.Errorf("Choose(%d, %d): %d, error %d", n, n, k, e)
		}
	}
}

// P3.1: a source goes on where the call ahead left it, one that failed too.
func TestCallsComeOneBehindTheOther(t *testing.T) {
	tooMany := call{name: "Choose(3, 4)", run: func(src api.Source) ([]int, api.Errno) { return Choose(src, 3, 4) }}
	src := &list{l: append([]uint64{0, 0, 2, 5}, times(64, most, 0, 0, 1, 2, 2)...)}
	for i, x := range []struct {
		c     call
		want  []int
		e     api.Errno
		taken int
	}{
		{permCall(3), []int{1, 2, 0}, api.OK, 2},
		{tooMany, nil, api.ErrArg, 2},
		{chooseCall(3, 1), []int{2}, api.OK, 3},
		{dealCall(3), nil, api.ErrDraw, 68},
		{permCall(1), []int{0}, api.OK, 68},
		{chooseCall(3, 2), []int{0, 1}, api.OK, 70},
		{dealCall(3), []int{0, 1, 2}, api.OK, 73},
	} {
		l, e := x.c.run(src)
		if e != x.e || !slices.Equal(l, x.want) || src.taken != x.taken {
			t.Errorf("call %d, %s: %d, error %d, %d taken", i, x.c.name, l, e, src.taken)
		}
	}
}

// hasEachOnce looks whether l is a permutation of n.
func hasEachOnce(t *testing.T, l []int, n int) {
	t.Helper()
	had := make([]bool, n)
	for _, x := range l {
		if x < 0 || x >= n || had[x] {
			t.Fatalf("permutation of %d: %d is no number of it, or there twice", n, x)
		}
		had[x] = true
	}
	if len(l) != n {
		t.Errorf("permutation of %d: %d long", n, len(l))
	}
}

// isRisingBelow looks whether l is rising, each unlike the others, and below n.
func isRisingBelow(t *testing.T, l []int, n int) {
	t.Helper()
	last := -1
	for i, x := range l {
		if x <= last || x >= n {
			t.Fatalf("chosen of %d: %d at place %d, behind %d", n, x, i, last)
		}
		last = x
	}
}

// addsUpTo looks whether l are weights of n rows, n together.
func addsUpTo(t *testing.T, l []int, n int) {
	t.Helper()
	sum := 0
	for _, w := range l {
		if w < 0 {
			t.Errorf("weights of %d: %d", n, w)
		}
		sum += w
	}
	if len(l) != n || sum != n {
		t.Errorf("weights of %d: %d of them, %d together", n, len(l), sum)
	}
}

// P3.2: whatever the source.
func TestEachOnce(t *testing.T) {
	for n := range 130 {
		for key := range uint64(3) {
			for _, src := range []api.Source{stream.New(key), same(key), same(most / 2), &list{l: []uint64{most, key, most - 1, key << 40}}} {
				p, e := Perm(src, n)
				if e != api.OK {
					t.Fatalf("Perm(%d): error %d", n, e)
				}
				hasEachOnce(t, p, n)
				for _, k := range []int{0, n / 3, n / 2, n - n/7, n} {
					l, e := Choose(src, n, k)
					if e != api.OK || len(l) != k {
						t.Fatalf("Choose(%d, %d): %d, error %d", n, k, l, e)
					}
					isRisingBelow(t, l, n)
				}
				w, e := Deal(src, n)
				if e != api.OK {
					t.Fatalf("Deal(%d): error %d", n, e)
				}
				addsUpTo(t, w, n)
			}
		}
	}
}

// everyDraw hands on all that may be drawn below the bounds.
func everyDraw(bounds []uint64, do func(numbers []uint64)) {
	numbers := make([]uint64, len(bounds))
	for {
		do(numbers)
		at := 0
		for at < len(bounds) && numbers[at] == bounds[at]-1 {
			numbers[at] = 0
			at++
		}
		if at == len(bounds) {
			return
		}
		numbers[at]++
	}
}

// P3.2, and that no answer is missing: of all that may be drawn each permutation comes of one, each choice of as many as any other, each weights of as many as there are orders of such rows.
func TestOfAllThatMayBeDrawn(t *testing.T) {
	for n := range 6 {
		for _, c := range calls(n) {
			had := map[string]int{}
			all := 0
			everyDraw(c.bounds, func(numbers []uint64) {
				l, e := c.run(&list{l: numbers})
				if e != api.OK {
					t.Fatalf("%s of %d: error %d", c.name, numbers, e)
				}
				had[fmt.Sprint(l)]++
				all++
			})
			for l, often := range had {
				if want := c.often(l, n); often != want {
					t.Errorf("%s: %s comes of %d, not of %d", c.name, l, often, want)
				}
				all -= c.often(l, n)
			}
			if all != 0 {
				t.Errorf("%s: %d answers are missing or too many", c.name, all)
			}
		}
	}
}

func factorial(n int) int {
	f := 1
	for i := range n {
		f *= i + 1
	}
	return f
}

// often is of how many draws an answer of the call comes, told by its text: see TestOfAllThatMayBeDrawn.
func (c call) often(text string, n int) int {
	switch c.name[0] {
	case 'P':
		return 1
	case 'C':
		return factorial(len(c.bounds))
	}
	f := factorial(n)
	for _, r := range text {
		if r >= '0' && r <= '9' { // n is small: a weight is one digit
			f /= factorial(int(r - '0'))
		}
	}
	return f
}

// R3: who writes into an answer changes nothing, neither what was answered nor what will be.
func TestAnswersAreNewMemory(t *testing.T) {
	for _, c := range append(calls(5), permCall(40), chooseCall(40, 9), dealCall(40)) {
		first, _ := c.run(stream.New(3))
		second, _ := c.run(stream.New(3))
		was := slices.Clone(second)
		for i := range first {
			first[i] = -1
		}
		first = append(first, -1, -1)
		if !slices.Equal(second, was) {
			t.Errorf("%s: answers share memory", c.name)
		}
		if third, e := c.run(stream.New(3)); e != api.OK || !slices.Equal(third, was) {
			t.Errorf("%s: %d, and then %d", c.name, was, third)
		}
	}
}
