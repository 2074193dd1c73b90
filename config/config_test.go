package config

import (
	"bytes"
	"math"
	"math/rand"
	"slices"
	"testing"

	"hornbeam/api"
	"hornbeam/take"
)

// good are configs that may be, and their bytes.
var good = []struct {
	c api.Config
	b []byte
}{
	{api.Config{Kind: 0, Classes: 2, Bins: 2, Trees: 1, Depth: 0, Leaf: 1, Pick: 1}, []byte{0, 0, 2, 0, 2, 0, 1, 0, 0, 0, 0, 1, 0, 1}},
	{api.Config{Kind: 0, Classes: 256, Bins: 256, Trees: 4096, Depth: 32, Leaf: 1 << 20, Pick: 1024}, []byte{0, 1, 0, 1, 0, 16, 0, 32, 0, 16, 0, 0, 4, 0}},
	{api.Config{Kind: 1, Classes: 0, Bins: 2, Trees: 1, Depth: 0, Leaf: 1, Pick: 1}, []byte{1, 0, 0, 0, 2, 0, 1, 0, 0, 0, 0, 1, 0, 1}},
	{api.Config{Kind: 1, Classes: 0, Bins: 256, Trees: 4096, Depth: 32, Leaf: 1 << 20, Pick: 1024}, []byte{1, 0, 0, 1, 0, 16, 0, 32, 0, 16, 0, 0, 4, 0}},
	{api.Config{Kind: 0, Classes: 0xa1, Bins: 0xb2, Trees: 0xc3d, Depth: 0x1e, Leaf: 0xf1234, Pick: 0x256}, []byte{0, 0, 0xa1, 0, 0xb2, 0xc, 0x3d, 0x1e, 0, 0xf, 0x12, 0x34, 2, 0x56}},
	{api.Config{Kind: 1, Classes: 0, Bins: 3, Trees: 258, Depth: 4, Leaf: 0x10203, Pick: 0x102}, []byte{1, 0, 0, 0, 3, 1, 2, 4, 0, 1, 2, 3, 1, 2}},
}

// places are where each field stands in a config, in the table's order.
var places = []struct {
	name        string
	at          func(c *api.Config) *int
	least, most int // of Classes: of the kind Classes
}{
	{"Kind", func(c *api.Config) *int { return &c.Kind }, 0, 1},
	{"Classes", func(c *api.Config) *int { return &c.Classes }, 2, 256},
	{"Bins", func(c *api.Config) *int { return &c.Bins }, 2, 256},
	{"Trees", func(c *api.Config) *int { return &c.Trees }, 1, 4096},
	{"Depth", func(c *api.Config) *int { return &c.Depth }, 0, 32},
	{"Leaf", func(c *api.Config) *int { return &c.Leaf }, 1, 1048576},
	{"Pick", func(c *api.Config) *int { return &c.Pick }, 1, 1024},
}

// middle is a config of this kind that may be, far from all ends.
func middle(kind int) api.Config {
	c := api.Config{Kind: kind, Classes: 7, Bins: 8, Trees: 9, Depth: 10, Leaf: 11, Pick: 12}
	if kind == api.Means {
		c.Classes = 0
	}
	return c
}

// with is the config with one field made another.
func with(c api.Config, place, n int) api.Config {
	*places[place].at(&c) = n
	return c
}

// tried is what a field is, and the error that it tells then.
type tried struct {
	n    int
	want api.Errno
}

// tries are what a field is looked at with: at its ends, one beyond, and far off.
func tries(kind, place int) []tried {
	switch p := places[place]; {
	case place == 0:
		return []tried{{kind, api.OK}, {-1, api.ErrForm}, {2, api.ErrForm}, {3, api.ErrForm}, {255, api.ErrForm}, {256, api.ErrForm}, {257, api.ErrForm},
			{1 << 32, api.ErrForm}, {-1 << 32, api.ErrForm}, {math.MinInt, api.ErrForm}, {math.MaxInt, api.ErrForm}}
	case place == 1 && kind == api.Means:
		return []tried{{0, api.OK}, {-1, api.ErrForm}, {1, api.ErrForm}, {2, api.ErrForm}, {256, api.ErrForm}, {257, api.ErrForm},
			{1 << 16, api.ErrForm}, {-1 << 16, api.ErrForm}, {math.MinInt, api.ErrForm}, {math.MaxInt, api.ErrForm}}
	default:
		return []tried{{p.least, api.OK}, {p.least + 1, api.OK}, {p.most - 1, api.OK}, {p.most, api.OK},
			{p.least - 1, api.ErrForm}, {-1, api.ErrForm}, {-p.most, api.ErrForm}, {p.most - 1<<32, api.ErrForm}, {math.MinInt, api.ErrForm},
			{p.most + 1, api.ErrLimit}, {p.least + 1<<16 + 1<<20, api.ErrLimit}, {p.least + 1<<32, api.ErrLimit}, {math.MaxInt, api.ErrLimit}}
	}
}

// wrong are those that aren't OK.
func wrong(kind, place int) []tried {
	return slices.DeleteFunc(tries(kind, place), func(x tried) bool { return x.want == api.OK })
}

// heaps are bytes to put others behind: none (nil and empty), some, with room behind them and without.
func heaps() [][]byte {
	room := append(make([]byte, 0, 64), 5, 6, 7)
	return [][]byte{nil, {}, make([]byte, 0, 64), {9}, slices.Clip([]byte{4, 4, 4, 4}), room, room[:1], bytes.Repeat([]byte{3}, 1000)}
}

// taken is what Get answers of bytes, how many are left then, and the error of its Try.
func taken(b []byte) (c api.Config, left int, e api.Errno) {
	e = take.Try(b, func(r *take.Reader) {
		defer func() { left = r.Left() }()
		c = Get(r)
	})
	return c, left, e
}

// put looks that Put lays these bytes, and nothing else, behind each heap, and keeps off it.
func put(t *testing.T, c api.Config, want []byte) {
	t.Helper()
	for _, h := range heaps() {
		whole := bytes.Clone(h[:cap(h)])
		first, second := Put(h, c), Put(h, c)
		all := append(bytes.Clone(h), want...)
		if !bytes.Equal(first, all) || !bytes.Equal(second, all) {
			t.Errorf("%v behind %x: %x and %x, not %x", c, h, first, second, all)
		}
		for i := range first[:cap(first)] {
			first[:cap(first)][i] ^= 255
		}
		if !bytes.Equal(h[:cap(h)], whole) {
			t.Errorf("%v: %x became %x", c, whole, h[:cap(h)])
		}
		if !bytes.Equal(second, all) {
			t.Errorf("%v: two answers share memory behind %x", c, h)
		}
		for i := range h {
			h[i] ^= 255
		}
		if !bytes.Equal(second, all) {
			t.Errorf("%v: an answer shares memory with %x", c, h)
		}
	}
}

// check looks that Check tells this error, and that Put lays nothing where there is one.
func check(t *testing.T, c api.Config, want api.Errno) {
	t.Helper()
	if e := Check(c); e != want {
		t.Errorf("%v: %d, not %d", c, e, want)
	}
	for _, h := range [][]byte{nil, {1, 2}} {
		more := 0
		if want == api.OK {
			more = 14
		}
		if b := Put(h, c); len(b) != len(h)+more || !bytes.HasPrefix(b, h) {
			t.Errorf("%v behind %x: %x", c, h, b)
		}
	}
}

// P8.1: the chapter's examples.
func TestExamples(t *testing.T) {
	check(t, with(with(middle(api.Classes), 0, 0), 1, 1), api.ErrForm)
	check(t, with(middle(api.Classes), 1, 257), api.ErrLimit)
	check(t, api.Config{Classes: 1}, api.ErrForm)
	check(t, api.Config{Classes: 257}, api.ErrLimit)
	check(t, api.Config{}, api.ErrForm)
}

// P8.1: Check, with each field at its ends, one beyond, and far off, of both kinds.
func TestCheck(t *testing.T) {
	for _, kind := range []int{api.Classes, api.Means} {
		for place := range places {
			for _, x := range tries(kind, place) {
				check(t, with(middle(kind), place, x.n), x.want)
			}
		}
	}
	for _, g := range good {
		check(t, g.c, api.OK)
	}
}

// P8.1: Check, of what Classes may be, number by number.
func TestCheckClasses(t *testing.T) {
	for n := -3; n <= 600; n++ {
		want := api.OK
		switch {
		case n < 2:
			want = api.ErrForm
		case n > 256:
			want = api.ErrLimit
		}
		check(t, with(middle(api.Classes), 1, n), want)
		want = api.ErrForm
		if n == 0 {
			want = api.OK
		}
		check(t, with(middle(api.Means), 1, n), want)
	}
}

// P8.1: Check, with a kind that is neither: whatever Classes is.
func TestCheckKind(t *testing.T) {
	for _, x := range wrong(api.Classes, 0) {
		for _, n := range []int{math.MinInt, -1, 0, 1, 2, 256, 257, math.MaxInt} {
			check(t, with(with(middle(api.Classes), 0, x.n), 1, n), api.ErrForm)
		}
	}
}

// P8.1: Check, with two fields wrong: the first one tells its error, be it ErrForm ahead of ErrLimit or the other way round.
func TestCheckTwo(t *testing.T) {
	orders := map[[2]api.Errno]int{}
	for _, kind := range []int{api.Classes, api.Means} {
		for first := range places {
			for second := first + 1; second < len(places); second++ {
				for _, x := range wrong(kind, first) {
					for _, y := range wrong(kind, second) {
						check(t, with(with(middle(kind), first, x.n), second, y.n), x.want)
						orders[[2]api.Errno{x.want, y.want}]++
					}
				}
			}
		}
	}
	if len(orders) != 4 {
		t.Errorf("not all orders of errors were tried: %v", orders)
	}
}

// P8.1: Check, with any fields wrong at once.
func TestCheckMany(t *testing.T) {
	r := rand.New(rand.NewSource(81))
	for range 20000 {
		kind := r.Intn(2)
		c, want := middle(kind), api.OK
		from := r.Intn(len(places)) // so that the first wrong one stands at each place
		for place := from; place < len(places); place++ {
			all := tries(kind, place)
			x := all[r.Intn(len(all))]
			c = with(c, place, x.n)
			if want == api.OK {
				want = x.want
			}
		}
		check(t, c, want)
	}
}

// P8.1: Put, of configs that may be.
func TestPut(t *testing.T) {
	for _, g := range good {
		put(t, g.c, g.b)
	}
}

// P8.1: Put, of configs that may not be: the bytes alone, and new memory all the same.
func TestPutNothing(t *testing.T) {
	put(t, api.Config{}, nil)
	for _, kind := range []int{api.Classes, api.Means} {
		for place := range places {
			for _, x := range wrong(kind, place) {
				put(t, with(middle(kind), place, x.n), nil)
			}
		}
	}
}

// P8.1: Get, of too few bytes, of each number of them, be they a config's or not: nothing is taken.
func TestGetShort(t *testing.T) {
	all := [][]byte{make([]byte, 14), bytes.Repeat([]byte{255}, 14)}
	for _, g := range good {
		all = append(all, g.b)
	}
	for _, b := range all {
		for n := range 14 {
			if c, left, e := taken(b[:n]); c != (api.Config{}) || left != n || e != api.ErrShort {
				t.Errorf("%x: %v, %d left, %d", b[:n], c, left, e)
			}
		}
	}
}

// P8.1: Get, of just as many bytes, and of more: these are left.
func TestGet(t *testing.T) {
	for _, g := range good {
		for _, more := range []int{0, 1, 2, 13, 14, 15, 100} {
			want := api.OK
			if more > 0 {
				want = api.ErrForm // Try's: bytes are left
			}
			b := append(bytes.Clone(g.b), bytes.Repeat([]byte{77}, more)...)
			if c, left, e := taken(b); c != g.c || left != more || e != want {
				t.Errorf("%x: %v, %d left, %d", b, c, left, e)
			}
		}
	}
}

// P8.1: Get, between others: what stands ahead and behind is as it was.
func TestGetBetween(t *testing.T) {
	b := take.Put(nil, 0x1234, 2)
	for _, g := range good {
		b = append(b, g.b...)
		b = take.Put(b, 0x56, 1)
	}
	e := take.Try(b, func(r *take.Reader) {
		if n := r.Number(2); n != 0x1234 {
			t.Errorf("ahead: %x", n)
		}
		for _, g := range good {
			if c := Get(r); c != g.c {
				t.Errorf("%v, not %v", c, g.c)
			}
			if n := r.Number(1); n != 0x56 {
				t.Errorf("behind: %x", n)
			}
		}
	})
	if e != api.OK {
		t.Error(e)
	}
}

// raw are the bytes of a config, whether it may be or not, told by another way than the program's.
func raw(c api.Config) []byte {
	return []byte{byte(c.Kind), byte(c.Classes / 256), byte(c.Classes), byte(c.Bins / 256), byte(c.Bins), byte(c.Trees / 256), byte(c.Trees), byte(c.Depth),
		byte(c.Leaf / 16777216), byte(c.Leaf / 65536), byte(c.Leaf / 256), byte(c.Leaf), byte(c.Pick / 256), byte(c.Pick)}
}

// widths are how many numbers each field's bytes tell apart.
var widths = []int{1 << 8, 1 << 16, 1 << 16, 1 << 16, 1 << 8, 1 << 32, 1 << 16}

// P8.1: Get, of a config that may not be: all of its bytes are taken, and then it fails with Check's error, and nothing more is done.
func TestGetWrong(t *testing.T) {
	for _, kind := range []int{api.Classes, api.Means} {
		for place := range places {
			for _, x := range append(wrong(kind, place), tried{widths[place] - 1, high(kind, place)}) {
				if x.n >= 0 && x.n < widths[place] {
					getWrong(t, with(middle(kind), place, x.n), x.want)
				}
			}
		}
	}
	getWrong(t, api.Config{Classes: 257}, api.ErrLimit)
	getWrong(t, api.Config{Classes: 1, Bins: 999}, api.ErrForm)
	getWrong(t, api.Config{Kind: 1, Classes: 257}, api.ErrForm)
}

// high is the error of a field that is as great as its bytes let it be.
func high(kind, place int) api.Errno {
	if place == 0 || place == 1 && kind == api.Means {
		return api.ErrForm
	}
	return api.ErrLimit
}

func getWrong(t *testing.T, c api.Config, want api.Errno) {
	t.Helper()
	for _, more := range []int{0, 1, 14} {
		b := append(raw(c), make([]byte, more)...)
		if got, left, e := taken(b); got != (api.Config{}) || left != more || e != want {
			t.Errorf("%x: %v, %d left, %d, not %d", b, got, left, e, want)
		}
	}
	on := false
	take.Try(raw(c), func(r *take.Reader) { Get(r); on = true })
	if on {
		t.Errorf("%v: gone on behind the failing", c)
	}
	if e := Check(c); e != want {
		t.Errorf("%v: Check tells %d, not %d", c, e, want)
	}
}

// anyGood is a config that may be, each field at an end now and then.
func anyGood(r *rand.Rand) api.Config {
	c := api.Config{Kind: r.Intn(2)}
	for place, p := range places[1:] {
		n := p.least + r.Intn(p.most-p.least+1)
		switch r.Intn(6) {
		case 0:
			n = p.least
		case 1:
			n = p.most
		}
		c = with(c, place+1, n)
	}
	if c.Kind == api.Means {
		c.Classes = 0
	}
	return c
}

// P8.2: there and back: each config that may be is taken from its bytes as it was.
func TestThereAndBack(t *testing.T) {
	r := rand.New(rand.NewSource(82))
	for range 20000 {
		c := anyGood(r)
		b := Put(nil, c)
		if !bytes.Equal(b, raw(c)) {
			t.Fatalf("%v: %x", c, b)
		}
		if got, left, e := taken(b); got != c || left != 0 || e != api.OK {
			t.Fatalf("%v: %x is taken as %v, %d left, %d", c, b, got, left, e)
		}
	}
}

// P8.2: there and back, of each number that a field may be; of those above 4096 some.
func TestThereAndBackEach(t *testing.T) {
	for _, kind := range []int{api.Classes, api.Means} {
		for place, p := range places {
			for n := p.least; n <= p.most; n += 1 + n>>12 {
				c := with(middle(kind), place, n)
				if Check(c) != api.OK {
					continue // Classes, of the kind Means; the other kind
				}
				if got, _, e := taken(Put(nil, c)); got != c || e != api.OK {
					t.Fatalf("%v is taken as %v, %d", c, got, e)
				}
			}
		}
	}
}

// P8.2: one way: whatever 14 bytes are taken as a config are its bytes.
func TestOneWay(t *testing.T) {
	for _, g := range good {
		for place := range g.b {
			for x := range 256 {
				b := bytes.Clone(g.b)
				b[place] = byte(x)
				oneWay(t, b)
			}
		}
	}
	r := rand.New(rand.NewSource(83))
	some := 0
	for range 50000 {
		b := raw(anyGood(r))
		for range r.Intn(3) {
			b[r.Intn(len(b))] = byte(r.Intn(256) >> r.Intn(8))
		}
		if oneWay(t, b) {
			some++
		}
	}
	if some < 1000 || some > 49000 {
		t.Errorf("%d of 50000 are configs: too few of one sort", some)
	}
	for range 10000 {
		b := make([]byte, 14)
		r.Read(b)
		oneWay(t, b)
	}
}

// oneWay looks at 14 bytes, and tells whether they are a config's.
func oneWay(t *testing.T, b []byte) bool {
	t.Helper()
	c, left, e := taken(b)
	switch {
	case left != 0:
		t.Errorf("%x: %d left", b, left)
	case e == api.OK && (Check(c) != api.OK || !bytes.Equal(Put(nil, c), b)):
		t.Errorf("%x is taken as %v, whose bytes are %x", b, c, Put(nil, c))
	case e != api.OK && e != api.ErrForm && e != api.ErrLimit:
		t.Errorf("%x: %d", b, e)
	case e != api.OK && c != (api.Config{}):
		t.Errorf("%x: %v beside an error", b, c)
	}
	return e == api.OK
}
