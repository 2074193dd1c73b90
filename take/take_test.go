package take

import (
	"bytes"
	"errors"
	"math"
	"math/big"
	"math/rand"
	"reflect"
	"runtime"
	"slices"
	"testing"

	"hornbeam/api"
)

// counts are numbers of bytes that are asked for, and what they count as.
var counts = []struct{ asked, bytes int }{
	{0, 0}, {1, 1}, {2, 2}, {3, 3}, {4, 4}, {5, 5}, {6, 6}, {7, 7}, {8, 8},
	{-1, 0}, {-2, 0}, {-8, 0}, {-1 << 32, 0}, {math.MinInt + 8, 0}, {math.MinInt, 0},
	{9, 8}, {10, 8}, {16, 8}, {255, 8}, {256, 8}, {1 << 32, 8}, {math.MaxInt - 8, 8}, {math.MaxInt, 8},
}

// wholes are whole numbers, and the eight bytes that they are.
var wholes = []struct {
	n int64
	b []byte
}{
	{0, []byte{0, 0, 0, 0, 0, 0, 0, 0}},
	{1, []byte{0, 0, 0, 0, 0, 0, 0, 1}},
	{-1, []byte{255, 255, 255, 255, 255, 255, 255, 255}},
	{-2, []byte{255, 255, 255, 255, 255, 255, 255, 254}},
	{256, []byte{0, 0, 0, 0, 0, 0, 1, 0}},
	{-256, []byte{255, 255, 255, 255, 255, 255, 255, 0}},
	{0x0102030405060708, []byte{1, 2, 3, 4, 5, 6, 7, 8}},
	{math.MaxInt64 - 1, []byte{127, 255, 255, 255, 255, 255, 255, 254}},
	{math.MaxInt64, []byte{127, 255, 255, 255, 255, 255, 255, 255}},
	{math.MinInt64, []byte{128, 0, 0, 0, 0, 0, 0, 0}},
	{math.MinInt64 + 1, []byte{128, 0, 0, 0, 0, 0, 0, 1}},
}

// values are values told by their bits, and the eight bytes that these are.
var values = []struct {
	bits uint64
	b    []byte
}{
	{0x0000000000000000, []byte{0, 0, 0, 0, 0, 0, 0, 0}},                         // 0
	{0x8000000000000000, []byte{0x80, 0, 0, 0, 0, 0, 0, 0}},                      // -0
	{0x7ff0000000000000, []byte{0x7f, 0xf0, 0, 0, 0, 0, 0, 0}},                   // +Inf
	{0xfff0000000000000, []byte{0xff, 0xf0, 0, 0, 0, 0, 0, 0}},                   // -Inf
	{0x7ff8000000000001, []byte{0x7f, 0xf8, 0, 0, 0, 0, 0, 1}},                   // from here on NaNs
	{0x7ff8000000000000, []byte{0x7f, 0xf8, 0, 0, 0, 0, 0, 0}},                   //
	{0xfff8000000000000, []byte{0xff, 0xf8, 0, 0, 0, 0, 0, 0}},                   //
	{0x7ffcba9876543210, []byte{0x7f, 0xfc, 0xba, 0x98, 0x76, 0x54, 0x32, 0x10}}, //
	{0x7ff0000000000001, []byte{0x7f, 0xf0, 0, 0, 0, 0, 0, 1}},                   // not quiet, as the next two
	{0xfff4000000000000, []byte{0xff, 0xf4, 0, 0, 0, 0, 0, 0}},                   //
	{0xfff7ffffffffffff, []byte{0xff, 0xf7, 255, 255, 255, 255, 255, 255}},       //
	{0xffffffffffffffff, []byte{255, 255, 255, 255, 255, 255, 255, 255}},         //
	{0x3ff0000000000000, []byte{0x3f, 0xf0, 0, 0, 0, 0, 0, 0}},                   // 1
	{0xc000000000000000, []byte{0xc0, 0, 0, 0, 0, 0, 0, 0}},                      // -2
	{0x0000000000000001, []byte{0, 0, 0, 0, 0, 0, 0, 1}},                         // the smallest of all
	{0x800fffffffffffff, []byte{0x80, 0x0f, 255, 255, 255, 255, 255, 255}},       //
	{0x7fefffffffffffff, []byte{0x7f, 0xef, 255, 255, 255, 255, 255, 255}},       // the greatest of all
}

// errnos are errors to fail with, and what Try answers.
var errnos = []struct{ e, want api.Errno }{
	{api.OK, api.ErrForm},
	{api.ErrArg, api.ErrArg}, {api.ErrShort, api.ErrShort}, {api.ErrForm, api.ErrForm},
	{api.ErrLimit, api.ErrLimit}, {api.ErrRange, api.ErrRange}, {api.ErrOver, api.ErrOver},
	{api.ErrDraw, api.ErrDraw}, {api.ErrShape, api.ErrShape}, {api.ErrTask, api.ErrTask},
	{10, 10}, {99, 99}, {-1, -1}, {math.MaxInt, math.MaxInt}, {math.MinInt, math.MinInt},
}

// heaps are bytes to put others behind: none (nil and empty), some, with room behind them and without.
func heaps() [][]byte {
	room := append(make([]byte, 0, 64), 5, 6, 7)
	return [][]byte{nil, {}, make([]byte, 0, 64), {9}, {1, 2, 3}, slices.Clip([]byte{4, 4, 4, 4}), room, room[:1]}
}

// numberOf is the number of bytes, told by another way than the program's.
func numberOf(b []byte) uint64 { return new(big.Int).SetBytes(b).Uint64() }

// lowest are the lowest bytes of a number, told by another way than the program's.
func lowest(n uint64, count int) []byte {
	all := new(big.Int).SetUint64(n).FillBytes(make([]byte, 8))
	return all[8-count:]
}

func anyBytes(r *rand.Rand, n int) []byte {
	b := make([]byte, n)
	r.Read(b)
	return b
}

func tell(t *testing.T, what string, got, want api.Errno) {
	t.Helper()
	if got != want {
		t.Errorf("%s: %d, not %d", what, got, want)
	}
}

// thrown is what a function panics with.
func thrown(f func()) (x any) {
	defer func() { x = recover() }()
	f()
	return nil
}

// P7.1: the chapter's examples.
func TestExamples(t *testing.T) {
	b := []byte{1, 2, 3}
	tell(t, "two, and two more", Try(b, func(r *Reader) {
		if n := r.Number(2); n != 258 {
			t.Errorf("%d, not 258", n)
		}
		r.Number(2)
		t.Error("gone on behind too few")
	}), api.ErrShort)
	tell(t, "two, and one more", Try(b, func(r *Reader) {
		if n := r.Number(2); n != 258 {
			t.Errorf("%d, not 258", n)
		}
		if n := r.Number(1); n != 3 {
			t.Errorf("%d, not 3", n)
		}
	}), api.OK)
}

// P7.1: Number, with no byte left, one too few, just as many, and more.
func TestNumber(t *testing.T) {
	r := rand.New(rand.NewSource(71))
	for _, c := range counts {
		for _, there := range []int{0, c.bytes - 1, c.bytes, c.bytes + 1, c.bytes + 9} {
			if there >= 0 {
				numberTaken(t, anyBytes(r, there), c.asked, c.bytes)
				numberTaken(t, bytes.Repeat([]byte{255}, there), c.asked, c.bytes)
				numberTaken(t, make([]byte, there), c.asked, c.bytes)
			}
		}
	}
}

func numberTaken(t *testing.T, b []byte, asked, count int) {
	t.Helper()
	was := bytes.Clone(b)
	on := false
	e := Try(b, func(r *Reader) {
		n := r.Number(asked)
		on = true
		if n != numberOf(b[:count]) {
			t.Errorf("%x, %d bytes: %x", b, asked, n)
		}
		if r.Left() != len(b)-count {
			t.Errorf("%x, %d bytes: %d are left", b, asked, r.Left())
		}
	})
	want := api.OK
	switch {
	case len(b) < count:
		want = api.ErrShort
	case len(b) > count:
		want = api.ErrForm
	}
	if e != want || on != (want != api.ErrShort) {
		t.Errorf("%x, %d bytes: %d, not %d; gone on: %v", b, asked, e, want, on)
	}
	if !bytes.Equal(b, was) {
		t.Errorf("%x became %x", was, b)
	}
}

// P7.1: the highest byte stands first.
func TestNumberHighestFirst(t *testing.T) {
	b := []byte{0x81, 2, 3, 4, 5, 6, 7, 0x88, 9}
	want := []uint64{
		0, 0x81, 0x8102, 0x810203, 0x81020304, 0x8102030405, 0x810203040506, 0x81020304050607, 0x8102030405060788,
	}
	for count, w := range want {
		e := Try(b, func(r *Reader) {
			if n := r.Number(count); n != w {
				t.Errorf("%d bytes: %x, not %x", count, n, w)
			}
		})
		tell(t, "some left", e, api.ErrForm)
	}
}

// P7.1: Whole.
func TestWhole(t *testing.T) {
	for _, w := range wholes {
		e := Try(append(bytes.Clone(w.b), 7), func(r *Reader) {
			if n := r.Whole(); n != w.n || r.Left() != 1 {
				t.Errorf("%x: %d, not %d; %d left", w.b, n, w.n, r.Left())
			}
			r.Number(1)
		})
		tell(t, "whole", e, api.OK)
	}
	for n := range 8 {
		e := Try(make([]byte, n), func(r *Reader) {
			r.Whole()
			t.Error("gone on behind too few")
		})
		tell(t, "too few for a whole one", e, api.ErrShort)
	}
}

// P7.1: Value, bit by bit.
func TestValue(t *testing.T) {
	for _, v := range values {
		e := Try(append(bytes.Clone(v.b), 7), func(r *Reader) {
			if f := r.Value(); math.Float64bits(f) != v.bits || r.Left() != 1 {
				t.Errorf("%x: %x, not %x; %d left", v.b, math.Float64bits(f), v.bits, r.Left())
			}
			r.Number(1)
		})
		tell(t, "value", e, api.OK)
	}
	for n := range 8 {
		e := Try(make([]byte, n), func(r *Reader) {
			r.Value()
			t.Error("gone on behind too few")
		})
		tell(t, "too few for a value", e, api.ErrShort)
	}
}

// P7.1: Left, ahead of all, behind each part, and at the end; asking takes nothing.
func TestLeft(t *testing.T) {
	left := func(r *Reader, want int) {
		t.Helper()
		for range 2 {
			if r.Left() != want {
				t.Errorf("%d left, not %d", r.Left(), want)
			}
		}
	}
	e := Try(make([]byte, 30), func(r *Reader) {
		left(r, 30)
		r.Number(3)
		left(r, 27)
		r.Number(0)
		left(r, 27)
		r.Number(-4)
		left(r, 27)
		r.Number(99)
		left(r, 19)
		r.Whole()
		left(r, 11)
		r.Value()
		left(r, 3)
		r.Number(2)
		left(r, 1)
		r.Number(1)
		left(r, 0)
		r.Number(0)
		left(r, 0)
	})
	tell(t, "all taken", e, api.OK)
	for _, b := range [][]byte{nil, {}} {
		tell(t, "no bytes", Try(b, func(r *Reader) { left(r, 0) }), api.OK)
	}
}

// P7.1: Fail, with each error, wherever, and nothing is done behind it.
func TestFail(t *testing.T) {
	for _, x := range errnos {
		for _, b := range [][]byte{nil, {}, {1}, {1, 2, 3}} {
			for taken := 0; taken <= len(b); taken++ {
				e := Try(b, func(r *Reader) {
					r.Number(taken)
					r.Fail(x.e)
					t.Errorf("%d: gone on behind Fail", x.e)
				})
				tell(t, "fail", e, x.want)
			}
		}
	}
}

// P7.1: nothing more is done behind what fails, however deep within the function.
func TestFailDeep(t *testing.T) {
	var deep func(r *Reader, n int)
	deep = func(r *Reader, n int) {
		if n == 0 {
			r.Fail(api.ErrOver)
		}
		deep(r, n-1)
		t.Error("gone on behind Fail")
	}
	tell(t, "deep", Try([]byte{1}, func(r *Reader) { deep(r, 5) }), api.ErrOver)

	steps := 0
	e := Try([]byte{1, 2, 3}, func(r *Reader) {
		for range 9 {
			r.Number(1)
			steps++
		}
	})
	if tell(t, "till there is none", e, api.ErrShort); steps != 3 {
		t.Errorf("%d steps", steps)
	}
}

// P7.1: what failed stays so, even if the function catches it; and the first error counts.
func TestFailedStaysSo(t *testing.T) {
	b := []byte{1, 2, 3}
	e := Try(b, func(r *Reader) {
		if thrown(func() { r.Number(4) }) == nil {
			t.Error("not failed")
		}
		for _, more := range []func(){
			func() { r.Number(3) }, func() { r.Number(0) }, func() { r.Whole() }, func() { r.Value() }, func() { r.Fail(api.ErrTask) },
		} {
			if thrown(more) == nil {
				t.Error("gone on behind what failed")
			}
		}
	})
	tell(t, "caught by the function itself", e, api.ErrShort)
	e = Try(b, func(r *Reader) {
		defer r.Fail(api.ErrTask)
		r.Number(3)
		r.Fail(api.OK)
	})
	tell(t, "failed twice", e, api.ErrForm)
	e = Try(b, func(r *Reader) {
		defer func() { panic(recover()) }()
		r.Fail(api.ErrDraw)
	})
	tell(t, "thrown on", e, api.ErrDraw)
}

// P7.1: Try, with all taken, some left, and some left behind a failing.
func TestTry(t *testing.T) {
	for _, b := range [][]byte{nil, {}} {
		tell(t, "no bytes, nothing done", Try(b, func(r *Reader) {}), api.OK)
		tell(t, "no bytes, none taken", Try(b, func(r *Reader) { r.Number(0) }), api.OK)
		tell(t, "no bytes, one taken", Try(b, func(r *Reader) { r.Number(1) }), api.ErrShort)
	}
	for n := 1; n < 20; n++ {
		for taken := 0; taken <= n; taken++ {
			want := api.ErrForm
			if taken == n {
				want = api.OK
			}
			b := make([]byte, n)
			tell(t, "taken one by one", Try(b, func(r *Reader) { takeOnes(r, taken) }), want)
			e := Try(b, func(r *Reader) {
				takeOnes(r, taken)
				r.Fail(api.ErrLimit)
			})
			tell(t, "failed, with some left", e, api.ErrLimit)
		}
	}
	tell(t, "short, with some left", Try([]byte{1, 2, 3}, func(r *Reader) { r.Number(4) }), api.ErrShort)
}

func takeOnes(r *Reader, n int) {
	for range n {
		r.Number(1)
	}
}

// P7.1: one Try within another one's function, on the same bytes and on others, whichever of them fails.
func TestTryWithin(t *testing.T) {
	b := []byte{1, 2, 3}
	for _, other := range [][]byte{b, b[1:], {1, 2, 3}, {7, 8, 9, 10}, nil} {
		e := Try(b, func(r *Reader) {
			r.Number(1)
			in := Try(other, func(q *Reader) {
				if q.Left() != len(other) || r.Left() != 2 {
					t.Errorf("%d and %d left", q.Left(), r.Left())
				}
				q.Number(len(other) + 1)
				t.Error("gone on behind too few")
			})
			tell(t, "the inner one fails", in, api.ErrShort)
			if n := r.Number(2); n != 0x203 {
				t.Errorf("the outer one: %x", n)
			}
		})
		tell(t, "the outer one doesn't", e, api.OK)

		e = Try(b, func(r *Reader) {
			Try(other, func(q *Reader) {
				q.Number(len(other))
				r.Fail(api.ErrShape)
				t.Error("gone on behind Fail")
			})
			t.Error("gone on behind the outer one's Fail")
		})
		tell(t, "the outer one fails within the inner one", e, api.ErrShape)

		e = Try(b, func(r *Reader) {
			Try(other, func(q *Reader) {
				r.Number(4)
				t.Error("gone on behind too few")
			})
			t.Error("gone on behind the outer one's too few")
		})
		tell(t, "the outer one is short within the inner one", e, api.ErrShort)

		e = Try(b, func(r *Reader) {
			in := Try(other, func(q *Reader) { r.Number(3) })
			want := api.ErrForm
			if len(other) == 0 {
				want = api.OK
			}
			tell(t, "the inner one takes of the outer one alone", in, want)
		})
		tell(t, "the outer one is taken within the inner one", e, api.OK)

		e = Try(b, func(r *Reader) {
			in := Try(other, func(q *Reader) { q.Number(len(other)) })
			tell(t, "the inner one is right", in, api.OK)
			r.Fail(api.ErrDraw)
		})
		tell(t, "the outer one fails behind", e, api.ErrDraw)
	}
}

// P7.1: both fail, each with an error of its own; and of three the middle one.
func TestTryWithinBoth(t *testing.T) {
	e := Try([]byte{1}, func(r *Reader) {
		in := Try([]byte{2, 3}, func(q *Reader) { q.Fail(api.ErrRange) })
		tell(t, "the inner one", in, api.ErrRange)
		r.Number(2)
	})
	tell(t, "the outer one", e, api.ErrShort)
	e = Try([]byte{1}, func(r *Reader) {
		in := Try([]byte{2}, func(q *Reader) {
			Try([]byte{3}, func(p *Reader) { q.Fail(api.ErrTask) })
			t.Error("gone on behind the middle one's Fail")
		})
		tell(t, "the middle one", in, api.ErrTask)
		r.Number(1)
	})
	tell(t, "the outer one of three", e, api.OK)
	e = Try([]byte{1}, func(r *Reader) {
		in := Try([]byte{2}, func(q *Reader) {
			defer q.Fail(api.ErrArg) // this one takes the place of the outer one's failing
			r.Fail(api.ErrOver)
		})
		tell(t, "the inner one, behind the outer one's failing", in, api.ErrArg)
	})
	tell(t, "the outer one, behind which the inner one failed", e, api.ErrOver)
}

// P7.1: what the function panics with by itself comes out as it was.
func TestOwnPanic(t *testing.T) {
	type own struct{ of []int }
	err := errors.New("own")
	for _, x := range []any{"own", 7, err, api.ErrShort, api.OK, []int{1}, own{[]int{1}}, &own{}, failure{}, failure{&Reader{}}, &failure{}} {
		for _, b := range [][]byte{nil, {1, 2}} {
			for _, got := range []any{
				thrown(func() { Try(b, func(r *Reader) { panic(x) }) }),
				thrown(func() { Try(b, func(r *Reader) { r.Number(len(b)); panic(x) }) }),
				thrown(func() { Try(b, func(r *Reader) { Try(nil, func(q *Reader) { panic(x) }) }) }),
				thrown(func() { Try(b, func(r *Reader) { defer func() { panic(x) }(); r.Fail(api.ErrForm) }) }),
				thrown(func() { Try(b, func(r *Reader) { thrown(func() { r.Fail(api.ErrForm) }); panic(x) }) }),
			} {
				if !same(got, x) {
					t.Errorf("%#v came out as %#v", x, got)
				}
			}
		}
	}
	var none *runtime.PanicNilError
	if x, ok := thrown(func() { Try(nil, func(r *Reader) { panic(nil) }) }).(error); !ok || !errors.As(x, &none) {
		t.Error("a panic with nil came out as another")
	}
	var fault runtime.Error
	if x, ok := thrown(func() { Try(nil, func(r *Reader) { _ = []int{}[r.Left()] }) }).(error); !ok || !errors.As(x, &fault) {
		t.Error("a fault of the function came out as another")
	}
}

// same tells whether what came out is what was panicked with; lists can't be compared, so these by what is in them.
func same(got, x any) bool {
	if reflect.TypeOf(x).Comparable() {
		return got == x
	}
	return reflect.DeepEqual(got, x)
}

// P7.1: who ends the goroutine from within the function isn't held up.
func TestGoexit(t *testing.T) {
	done := make(chan bool)
	on := false
	go func() {
		defer close(done)
		Try(nil, func(r *Reader) { runtime.Goexit() })
		on = true
	}()
	<-done
	if on {
		t.Error("gone on behind the end")
	}
}

// P7.1: the bytes are those that were handed in, whatever the function writes into them; and they aren't changed.
func TestTryKeepsOff(t *testing.T) {
	b := []byte{1, 2, 3, 4}
	e := Try(b[:3], func(r *Reader) {
		if n := r.Number(1); n != 1 {
			t.Errorf("%d, not 1", n)
		}
		b[1], b[2] = 8, 9
		if n := r.Number(2); n != 0x203 {
			t.Errorf("%x, not 203", n)
		}
	})
	tell(t, "written into", e, api.OK)
	if !bytes.Equal(b, []byte{1, 8, 9, 4}) {
		t.Errorf("%x", b)
	}
}

// putAll puts one thing behind each heap, and looks that all is as said.
func putAll(t *testing.T, put func(b []byte) []byte, want []byte) {
	t.Helper()
	for _, h := range heaps() {
		whole := bytes.Clone(h[:cap(h)])
		first, second := put(h), put(h)
		all := append(bytes.Clone(h), want...)
		if !bytes.Equal(first, all) || !bytes.Equal(second, all) {
			t.Errorf("behind %x: %x and %x, not %x", h, first, second, all)
		}
		for i := range first[:cap(first)] {
			first[:cap(first)][i] ^= 255
		}
		if !bytes.Equal(h[:cap(h)], whole) {
			t.Errorf("%x became %x", whole, h[:cap(h)])
		}
		if !bytes.Equal(second, all) {
			t.Errorf("two answers share memory behind %x", h)
		}
		for i := range h {
			h[i] ^= 255
		}
		if !bytes.Equal(second, all) {
			t.Errorf("an answer shares memory with %x", h)
		}
	}
}

// P7.1: Put, of numbers that fit and of greater ones.
func TestPut(t *testing.T) {
	numbers := []uint64{0, 1, 0x80, 0xff, 0x100, 0x1234, 0xffff, 0x10000, 0xabcdef, 1 << 31, 1<<32 - 1, 1 << 32,
		0x8102030405060788, 1 << 56, 1<<56 - 1, 1 << 63, math.MaxUint64 - 1, math.MaxUint64}
	for _, c := range counts {
		for _, n := range numbers {
			putAll(t, func(b []byte) []byte { return Put(b, n, c.asked) }, lowest(n, c.bytes))
		}
	}
	for count, want := range [][]byte{{}, {0xef}, {0xcd, 0xef}, {0xab, 0xcd, 0xef}, {0, 0xab, 0xcd, 0xef}} {
		putAll(t, func(b []byte) []byte { return Put(b, 0xabcdef, count) }, want)
	}
}

// P7.1: PutWhole.
func TestPutWhole(t *testing.T) {
	for _, w := range wholes {
		putAll(t, func(b []byte) []byte { return PutWhole(b, w.n) }, w.b)
	}
}

// P7.1: PutValue, bit by bit.
func TestPutValue(t *testing.T) {
	for _, v := range values {
		putAll(t, func(b []byte) []byte { return PutValue(b, math.Float64frombits(v.bits)) }, v.b)
	}
}

// P7.2: what was put is taken as it was, in the order in which it was put, and nothing is left.
func TestThereAndBack(t *testing.T) {
	r := rand.New(rand.NewSource(72))
	for range 300 {
		b, looks := anyPut(t, r, r.Intn(30))
		e := Try(b, func(r *Reader) {
			for _, look := range looks {
				look(r)
			}
			if r.Left() != 0 {
				t.Errorf("%d left", r.Left())
			}
		})
		tell(t, "there and back", e, api.OK)
	}
}

// anyPut are bytes of things that were put, and what looks at each of them when it is taken.
func anyPut(t *testing.T, r *rand.Rand, n int) (b []byte, looks []func(r *Reader)) {
	for range n {
		bits := r.Uint64() >> r.Intn(64)
		switch r.Intn(5) {
		case 0:
			bits = values[r.Intn(len(values))].bits
		case 1:
			bits = uint64(wholes[r.Intn(len(wholes))].n)
		}
		switch r.Intn(3) {
		case 0:
			c := counts[r.Intn(len(counts))]
			kept := numberOf(lowest(bits, c.bytes))
			b = Put(b, bits, c.asked)
			looks = append(looks, func(r *Reader) {
				if n := r.Number(c.asked); n != kept {
					t.Errorf("%d bytes of %x are taken as %x", c.asked, bits, n)
				}
			})
		case 1:
			b = PutWhole(b, int64(bits))
			looks = append(looks, func(r *Reader) {
				if n := r.Whole(); n != int64(bits) {
					t.Errorf("%d is taken as %d", int64(bits), n)
				}
			})
		default:
			b = PutValue(b, math.Float64frombits(bits))
			looks = append(looks, func(r *Reader) {
				if f := r.Value(); math.Float64bits(f) != bits {
					t.Errorf("%x is taken as %x", bits, math.Float64bits(f))
				}
			})
		}
	}
	return b, looks
}

// P7.2: each thing by itself.
func TestThereAndBackEach(t *testing.T) {
	for count := range 9 {
		for shift := range 65 {
			n := (uint64(math.MaxUint64) >> shift) &^ (math.MaxUint64 << (8 * count))
			tell(t, "number", Try(Put(nil, n, count), func(r *Reader) {
				if got := r.Number(count); got != n {
					t.Errorf("%d bytes: %x is taken as %x", count, n, got)
				}
			}), api.OK)
		}
	}
	for _, w := range wholes {
		tell(t, "whole", Try(PutWhole(nil, w.n), func(r *Reader) {
			if n := r.Whole(); n != w.n {
				t.Errorf("%d is taken as %d", w.n, n)
			}
		}), api.OK)
	}
	for _, v := range values {
		tell(t, "value", Try(PutValue(nil, math.Float64frombits(v.bits)), func(r *Reader) {
			if f := r.Value(); math.Float64bits(f) != v.bits {
				t.Errorf("%x is taken as %x", v.bits, math.Float64bits(f))
			}
		}), api.OK)
	}
}
