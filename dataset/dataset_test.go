package dataset

import (
	"bytes"
	"encoding/binary"
	"encoding/hex"
	"math"
	"math/rand"
	"slices"
	"strings"
	"testing"

	"hornbeam/api"
)

const cleanNaN = 0x7ff8000000000001

// where a dataset's parts begin
const (
	atConfig = 4
	atRows   = 18
	atCols   = 22
	atValues = 24
)

var (
	classes = api.Config{Kind: api.Classes, Classes: 3, Bins: 4, Trees: 5, Depth: 6, Leaf: 7, Pick: 8}
	means   = api.Config{Kind: api.Means, Bins: 4, Trees: 5, Depth: 6, Leaf: 7, Pick: 8}
)

// notClean are the bits of values that aren't clean.
var notClean = []uint64{
	0x8000000000000000, 0x7ff8000000000000, 0x7ff8000000000002, 0x7ff0000000000001, 0x7fffffffffffffff,
	0xfff8000000000001, 0xfff8000000000000, 0xfff0000000000001, 0xffffffffffffffff,
}

// areClean are the bits of values that are clean, at the edges of those that aren't.
var areClean = []uint64{
	0, 1, 0x8000000000000001, 0x000fffffffffffff, 0x0010000000000000, 0x3ff0000000000000, 0xbff0000000000000,
	0x7fefffffffffffff, 0xffefffffffffffff, 0x7ff0000000000000, 0xfff0000000000000, cleanNaN,
}

// valuesOf are the values of bits.
func valuesOf(l ...uint64) []float64 {
	var out []float64
	for _, x := range l {
		out = append(out, math.Float64frombits(x))
	}
	return out
}

// bitsOf are the bits of values.
func bitsOf(l []float64) []uint64 {
	var out []uint64
	for _, x := range l {
		out = append(out, math.Float64bits(x))
	}
	return out
}

// good are datasets that may be.
func good() []api.Dataset {
	return []api.Dataset{
		{Config: classes, Rows: 1, Cols: 1, Values: []float64{0}, Targets: []int64{2}},
		{Config: means, Rows: 1, Cols: 1, Values: valuesOf(cleanNaN), Targets: []int64{-1 << 20}},
		{Config: classes, Rows: 3, Cols: 2, Values: []float64{1, 2, 3, -1, math.Inf(1), math.Inf(-1)}, Targets: []int64{0, 1, 2}},
		{Config: means, Rows: 2, Cols: 3, Values: []float64{0.5, 1e300, -1e-300, 7, 8, 9}, Targets: []int64{1 << 20, -7}},
		{Config: means, Rows: 1, Cols: len(areClean), Values: valuesOf(areClean...), Targets: []int64{0}},
		{Config: classes, Rows: 5, Cols: 1, Values: []float64{5, 4, 3, 2, 1}, Targets: []int64{2, 2, 0, 0, 1}},
	}
}

// raw are a dataset's bytes, whether it may be or not, told by another way than the program's.
func raw(d api.Dataset) []byte {
	c, be := d.Config, binary.BigEndian
	b := append([]byte("HORN"), byte(c.Kind))
	for _, n := range []int{c.Classes, c.Bins, c.Trees} {
		b = be.AppendUint16(b, uint16(n))
	}
	b = be.AppendUint32(append(b, byte(c.Depth)), uint32(c.Leaf))
	b = be.AppendUint32(be.AppendUint16(b, uint16(c.Pick)), uint32(d.Rows))
	b = be.AppendUint16(b, uint16(d.Cols))
	for _, x := range bitsOf(d.Values) {
		b = be.AppendUint64(b, x)
	}
	for _, x := range d.Targets {
		b = be.AppendUint64(b, uint64(x))
	}
	return b
}

// cloned is the dataset in other memory.
func cloned(d api.Dataset) api.Dataset {
	d.Values, d.Targets = slices.Clone(d.Values), slices.Clone(d.Targets)
	return d
}

// same tells whether two datasets are, values bit by bit.
func same(a, b api.Dataset) bool {
	return a.Config == b.Config && a.Rows == b.Rows && a.Cols == b.Cols &&
		slices.Equal(bitsOf(a.Values), bitsOf(b.Values)) && slices.Equal(a.Targets, b.Targets)
}

// get looks that Get tells this error of bytes, and answers no dataset beside it.
func get(t *testing.T, b []byte, want api.Errno) {
	t.Helper()
	d, e := Get(b)
	if e != want {
		t.Errorf("%d bytes, %x: %d, not %d", len(b), b[:min(len(b), 80)], e, want)
	}
	if want != api.OK && !same(d, api.Dataset{}) {
		t.Errorf("%d bytes, %x: %v beside an error", len(b), b[:min(len(b), 80)], d)
	}
}

// ends looks at bytes that end anywhere: ErrShort, till so many stand there; from then on this error.
func ends(t *testing.T, b []byte, stands int, want api.Errno) {
	t.Helper()
	for n := range len(b) + 1 {
		if n < stands {
			get(t, b[:n], api.ErrShort)
		} else {
			get(t, b[:n], want)
		}
	}
}

// put looks that Put tells this error, that its bytes are these if there is none, and that it answers none beside an error.
func put(t *testing.T, d api.Dataset, want api.Errno) {
	t.Helper()
	b, e := Put(d)
	switch {
	case e != want:
		t.Errorf("%v, %d by %d, %d values, %d targets: %d, not %d", d.Config, d.Rows, d.Cols, len(d.Values), len(d.Targets), e, want)
	case want != api.OK && len(b) != 0:
		t.Errorf("%v, %d by %d: %d bytes beside an error", d.Config, d.Rows, d.Cols, len(b))
	case want == api.OK && !bytes.Equal(b, raw(d)):
		t.Errorf("%v, %d by %d: not its bytes", d.Config, d.Rows, d.Cols)
	}
}

// P9.1: the chapter's example, byte by byte.
func TestExample(t *testing.T) {
	d := api.Dataset{Config: api.Config{Classes: 2, Bins: 256, Trees: 258, Depth: 3, Leaf: 66051, Pick: 513}, Rows: 2, Cols: 1, Values: []float64{1, math.NaN()}, Targets: []int64{0, 1}}
	parts := []string{
		"484f524e",
		"00" + "0002" + "0100" + "0102" + "03" + "00010203" + "0201",
		"00000002" + "0001",
		"3ff0000000000000" + "7ff8000000000001",
		"0000000000000000" + "0000000000000001",
	}
	for i, long := range []int{4, 14, 6, 16, 16} {
		if len(parts[i]) != 2*long {
			t.Fatalf("part %d has %d letters", i, len(parts[i]))
		}
	}
	b, e := Put(d)
	if e != api.OK || hex.EncodeToString(b) != strings.Join(parts, "") {
		t.Errorf("%x, %d", b, e)
	}
	if x, e := Get(b); e != api.OK || !same(x, d) {
		t.Errorf("%v, %d", x, e)
	}
}

// P9.1: the whole's example, and no bytes at all.
func TestLettersAlone(t *testing.T) {
	get(t, []byte("HORN"), api.ErrShort)
	get(t, nil, api.ErrShort)
	get(t, []byte{}, api.ErrShort)
}

// P9.1: Get and Put, of datasets that may be; of Get, bytes that end anywhere, and more bytes.
func TestGood(t *testing.T) {
	for _, d := range good() {
		put(t, d, api.OK)
		b := raw(d)
		ends(t, b, len(b), api.OK)
		if x, _ := Get(b); !same(x, d) {
			t.Errorf("%x: %v, not %v", b, x, d)
		}
		for _, more := range []int{1, 2, 7, 8, 9, 16, 1000} {
			get(t, append(bytes.Clone(b), make([]byte, more)...), api.ErrForm)
			get(t, append(bytes.Clone(b), bytes.Repeat([]byte{255}, more)...), api.ErrForm)
		}
		get(t, append(bytes.Clone(b), b...), api.ErrForm)
	}
}

// P9.1: Get, of other letters: as soon as all four stand there, and not ahead of that.
func TestGetLetters(t *testing.T) {
	for _, d := range good()[:4] {
		for at := range 4 {
			for _, x := range []byte{0, 1, ' ', 'H' + 32, 'o', 'H', 'O', 'R', 'N', 128, 255} {
				b := raw(d)
				if b[at] != x {
					b[at] = x
					ends(t, b, 4, api.ErrForm)
				}
			}
		}
	}
	for _, l := range []string{"NROH", "horn", "HORM", "IORN", "\x00HOR", "ORNH", "HHOR", "XXXX", "\x00\x00\x00\x00"} {
		ends(t, []byte(l), 4, api.ErrForm)
		ends(t, []byte(l+"HORN"), 4, api.ErrForm)
	}
}

// configFault is a config that may not be, and its error.
type configFault struct {
	c    api.Config
	want api.Errno
}

// configFaults are those with one field wrong, in the fields' order, and whose numbers their bytes can tell.
func configFaults() []configFault {
	var l []configFault
	add := func(want api.Errno, change func(c *api.Config)) {
		for _, c := range []api.Config{classes, means} {
			change(&c)
			l = append(l, configFault{c, want})
		}
	}
	add(api.ErrForm, func(c *api.Config) { c.Kind = 2 })
	add(api.ErrForm, func(c *api.Config) { c.Kind = 255 })
	l = append(l, configFault{with(classes, 1), api.ErrForm}, configFault{with(classes, 0), api.ErrForm}, configFault{with(classes, 257), api.ErrLimit})
	l = append(l, configFault{with(means, 1), api.ErrForm}, configFault{with(means, 2), api.ErrForm}, configFault{with(means, 257), api.ErrForm})
	add(api.ErrForm, func(c *api.Config) { c.Bins = 1 })
	add(api.ErrLimit, func(c *api.Config) { c.Bins = 257 })
	add(api.ErrForm, func(c *api.Config) { c.Trees = 0 })
	add(api.ErrLimit, func(c *api.Config) { c.Trees = 4097 })
	add(api.ErrLimit, func(c *api.Config) { c.Depth = 33 })
	add(api.ErrForm, func(c *api.Config) { c.Leaf = 0 })
	add(api.ErrLimit, func(c *api.Config) { c.Leaf = 1<<20 + 1 })
	add(api.ErrForm, func(c *api.Config) { c.Pick = 0 })
	add(api.ErrLimit, func(c *api.Config) { c.Pick = 1025 })
	return l
}

// with is the config with so many classes.
func with(c api.Config, many int) api.Config {
	c.Classes = many
	return c
}

// P9.1: Get, of each error of the config: behind all of its bytes, and not ahead of that; and Put, of the same.
func TestConfig(t *testing.T) {
	for _, d := range good()[:4] {
		for _, f := range configFaults() {
			d.Config = f.c
			ends(t, raw(d), atRows, f.want)
			put(t, d, f.want)
		}
	}
}

// head are the bytes of a dataset ahead of its values.
func head(rows, cols int) []byte {
	return raw(api.Dataset{Config: means, Rows: rows, Cols: cols})
}

// P9.1: Get, of how many rows there are: as soon as the number stands there, whatever stands behind.
func TestGetRows(t *testing.T) {
	for rows, want := range map[int]api.Errno{
		0: api.ErrForm, 1<<20 + 1: api.ErrLimit, 1 << 24: api.ErrLimit, 1<<24 + 1: api.ErrLimit, 1<<31 - 1: api.ErrLimit, 1 << 31: api.ErrLimit, 1<<32 - 1: api.ErrLimit,
	} {
		for _, cols := range []int{0, 1, 2, 1024, 1025, 65535} {
			ends(t, append(head(rows, cols), make([]byte, 40)...), atCols, want)
		}
	}
	for _, rows := range []int{1, 2, 255, 256, 65536, 1<<20 - 1, 1 << 20} {
		ends(t, head(rows, 1), atValues, api.ErrShort)
	}
}

// P9.1: Get, of how many columns there are, and of both multiplied: as soon as the number stands there, whatever stands behind.
func TestGetCols(t *testing.T) {
	dirty := bytes.Repeat([]byte{255}, 40)
	for _, rows := range []int{1, 3, 16384, 1 << 20} {
		for cols, want := range map[int]api.Errno{0: api.ErrForm, 1025: api.ErrLimit, 1026: api.ErrLimit, 32768: api.ErrLimit, 65535: api.ErrLimit} {
			ends(t, append(head(rows, cols), make([]byte, 40)...), atValues, want)
			ends(t, append(head(rows, cols), dirty...), atValues, want)
		}
	}
	for _, above := range [][2]int{{172961, 97}, {16385, 1024}, {1 << 20, 17}, {1 << 20, 1024}, {1<<20 - 1, 1024}, {1 << 19, 33}} { // 172961 by 97 are 2^24 + 1
		ends(t, head(above[0], above[1]), atValues, api.ErrLimit)
		ends(t, append(head(above[0], above[1]), dirty...), atValues, api.ErrLimit)
	}
	for _, just := range [][2]int{{1 << 20, 16}, {16384, 1024}, {65536, 256}, {1 << 19, 32}, {16383, 1024}, {1, 1024}, {1 << 20, 1}} {
		ends(t, append(head(just[0], just[1]), make([]byte, 40)...), atValues+40, api.ErrShort)
		ends(t, append(head(just[0], just[1]), dirty...), atValues+8, api.ErrForm)
	}
}

// P9.1: just as many cells as may be, there and back; and one byte fewer and more.
func TestMostCells(t *testing.T) {
	for _, size := range [][2]int{{1 << 20, 16}, {16384, 1024}} {
		d := api.Dataset{Config: means, Rows: size[0], Cols: size[1], Values: make([]float64, 1<<24), Targets: make([]int64, size[0])}
		d.Values[0], d.Values[1<<24-1] = 3, math.Inf(-1)
		d.Targets[0], d.Targets[size[0]-1] = -1<<20, 1<<20
		b, e := Put(d)
		if e != api.OK || len(b) != atValues+8*(1<<24+size[0]) {
			t.Fatalf("%v: %d bytes, %d", size, len(b), e)
		}
		x, e := Get(b)
		if e != api.OK || x.Rows != d.Rows || x.Cols != d.Cols || !slices.Equal(x.Values, d.Values) || !slices.Equal(x.Targets, d.Targets) {
			t.Fatalf("%v: not as it was, %d", size, e)
		}
		get(t, b[:len(b)-1], api.ErrShort)
		get(t, append(b, 0), api.ErrForm)
	}
}

// P9.1: Get and Put, of a value that isn't clean, at each place: of Get, behind its bytes.
func TestValues(t *testing.T) {
	for _, d := range good() {
		for at := range d.Values {
			for _, x := range notClean {
				wrong := cloned(d)
				wrong.Values[at] = math.Float64frombits(x)
				ends(t, raw(wrong), atValues+8*at+8, api.ErrForm)
				put(t, wrong, api.ErrForm)
			}
			for _, x := range areClean {
				right := cloned(d)
				right.Values[at] = math.Float64frombits(x)
				get(t, raw(right), api.OK)
				put(t, right, api.OK)
			}
		}
	}
}

// P9.1: Get and Put, of what a target may be, at each place: of Get, behind its bytes.
func TestTargets(t *testing.T) {
	type tried struct {
		target int64
		want   api.Errno
	}
	far := []int64{math.MinInt64, math.MinInt64 + 1, -1 << 32, 1 << 32, 1<<32 + 1, math.MaxInt64 - 1, math.MaxInt64}
	all := map[api.Config][]tried{means: {
		{-1<<20 - 1, api.ErrLimit}, {-1 << 20, api.OK}, {1 - 1<<20, api.OK}, {-1, api.OK}, {0, api.OK}, {1, api.OK}, {3, api.OK}, {256, api.OK},
		{1<<20 - 1, api.OK}, {1 << 20, api.OK}, {1<<20 + 1, api.ErrLimit},
	}}
	for _, many := range []int64{2, 3, 255, 256} {
		all[with(classes, int(many))] = []tried{
			{-1 << 20, api.ErrRange}, {-256, api.ErrRange}, {-1, api.ErrRange}, {0, api.OK}, {1, api.OK}, {many - 1, api.OK}, {many, api.ErrRange}, {many + 1, api.ErrRange},
			{256, api.ErrRange}, {257, api.ErrRange}, {1 << 20, api.ErrRange}, {1<<20 + 1, api.ErrRange},
		}
	}
	for c, l := range all {
		for _, x := range far {
			beyond := api.ErrRange
			if c.Kind == api.Means {
				beyond = api.ErrLimit
			}
			l = append(l, tried{x, beyond})
		}
		for _, x := range l {
			for at := range 4 {
				d := api.Dataset{Config: c, Rows: 4, Cols: 2, Values: make([]float64, 8), Targets: []int64{1, 0, 0, 1}}
				d.Targets[at] = x.target
				stands := atValues + 64 + 32
				if x.want != api.OK {
					stands = atValues + 64 + 8*at + 8
				}
				ends(t, raw(d), stands, x.want)
				put(t, d, x.want)
			}
		}
	}
}

// fault is something that is wrong with a dataset's bytes, from which byte on it shows, and its error.
type fault struct {
	spoil  func(b []byte)
	stands int
	want   api.Errno
}

// faults are those of three rows of two columns, of a kind, in the order in which they show; those that show at the same byte can't be there at once.
func faults(kind int) []fault {
	set := func(at int, x ...byte) func(b []byte) {
		return func(b []byte) { copy(b[at:], x) }
	}
	l := []fault{
		{set(1, 'o'), 4, api.ErrForm},
		{set(atConfig+3, 1, 1), 18, api.ErrLimit}, // Bins
		{set(atConfig+12, 0, 0), 18, api.ErrForm}, // Pick
		{set(atRows, 0, 0, 0, 0), 22, api.ErrForm},
		{set(atRows, 0, 16, 0, 1), 22, api.ErrLimit},
		{set(atCols, 0, 0), 24, api.ErrForm},
		{set(atCols, 4, 1), 24, api.ErrLimit},
	}
	for at := atValues; at < atValues+48; at += 8 {
		l = append(l, fault{set(at, 128, 0, 0, 0, 0, 0, 0, 0), at + 8, api.ErrForm})
		l = append(l, fault{set(at, 0x7f, 0xf8, 0, 0, 0, 0, 0, 0), at + 8, api.ErrForm})
	}
	beyond := api.ErrRange
	if kind == api.Means {
		beyond = api.ErrLimit
	}
	for at := atValues + 48; at < atValues+72; at += 8 {
		l = append(l, fault{set(at, 255, 0, 0, 0, 0, 0, 0, 0), at + 8, beyond})
		l = append(l, fault{set(at, 0, 0, 0, 0, 1, 0, 0, 0), at + 8, beyond})
	}
	return l
}

// P9.1: Get, where two are wrong at once, and bytes end anywhere or there are more: the first one, from the first byte on, tells its error.
func TestGetTwo(t *testing.T) {
	orders := map[[2]api.Errno]bool{}
	for _, d := range []api.Dataset{
		{Config: classes, Rows: 3, Cols: 2, Values: []float64{1, 2, 3, 4, 5, 6}, Targets: []int64{0, 1, 2}},
		{Config: means, Rows: 3, Cols: 2, Values: []float64{1, 2, 3, 4, 5, 6}, Targets: []int64{0, 1, 2}},
	} {
		l := faults(d.Config.Kind)
		for i, first := range l {
			for _, second := range l[i+1:] {
				if first.stands == second.stands && first.stands != 18 {
					continue
				}
				b := append(raw(d), 1, 2, 3)
				second.spoil(b)
				first.spoil(b)
				ends(t, b, first.stands, first.want)
				orders[[2]api.Errno{first.want, second.want}] = true
			}
			b := append(raw(d), make([]byte, 20)...)
			first.spoil(b)
			ends(t, b, first.stands, first.want)
		}
	}
	for _, order := range [][2]api.Errno{
		{api.ErrForm, api.ErrForm}, {api.ErrForm, api.ErrLimit}, {api.ErrForm, api.ErrRange}, {api.ErrLimit, api.ErrForm},
		{api.ErrLimit, api.ErrLimit}, {api.ErrLimit, api.ErrRange}, {api.ErrRange, api.ErrRange},
	} {
		if !orders[order] {
			t.Errorf("this order of errors wasn't tried: %v", order)
		}
	}
}

// P9.1: Put, of a shape that isn't right: ErrShape, whatever else is wrong.
func TestPutShape(t *testing.T) {
	some, cells := []float64{1, 2, 3, 4, 5, 6}, make([]float64, 1<<24+1)
	targets := make([]int64, 1<<24+1)
	shapes := []api.Dataset{
		{Rows: -1}, {Cols: -1}, {Rows: -1, Cols: -1}, {Rows: -1, Cols: -1, Values: some[:1]}, {Rows: -2, Cols: -3, Values: some}, {Rows: -2, Cols: -3, Values: some, Targets: targets[:2]},
		{Rows: -1, Targets: targets[:1]}, {Rows: 1, Cols: -1, Targets: targets[:1]},
		{Rows: math.MinInt}, {Rows: math.MaxInt}, {Cols: math.MinInt}, {Cols: math.MaxInt}, {Rows: math.MinInt, Cols: math.MinInt}, {Rows: math.MaxInt, Cols: math.MaxInt, Values: some[:1]},
		{Rows: math.MinInt, Cols: 2}, {Rows: 2, Cols: math.MinInt, Targets: targets[:2]}, {Rows: 2, Cols: math.MaxInt, Targets: targets[:2]},
		{Rows: 1 << 32, Cols: 1 << 32}, {Rows: 1 << 62, Cols: 4}, {Rows: 4, Cols: 1 << 62, Targets: targets[:4]},
		{Rows: 1<<24 + 1, Targets: targets}, {Rows: 1<<24 + 1, Cols: 1, Values: cells, Targets: targets}, {Cols: 1<<24 + 1}, {Rows: 1, Cols: 1<<24 + 1, Values: cells, Targets: targets[:1]},
		{Rows: 3, Cols: 2, Values: some[:5], Targets: targets[:3]}, {Rows: 3, Cols: 2, Targets: targets[:3]}, {Rows: 3, Cols: 2, Values: cells[:7], Targets: targets[:3]}, {Rows: 3, Cols: 2, Values: cells, Targets: targets[:3]},
		{Rows: 3, Cols: 2, Values: some, Targets: targets[:2]}, {Rows: 3, Cols: 2, Values: some, Targets: targets[:4]}, {Rows: 3, Cols: 2, Values: some}, {Rows: 3, Cols: 2, Values: some, Targets: targets},
		{Rows: 3, Cols: 2, Values: some, Targets: targets[:6]}, {Rows: 2, Cols: 2, Values: some, Targets: targets[:3]}, {Rows: 3, Cols: 3, Values: some, Targets: targets[:3]},
		{Values: some[:1]}, {Targets: targets[:1]}, {Rows: 1}, {Rows: 1, Cols: 1, Targets: targets[:1]}, {Rows: 1, Cols: 1, Values: some[:1]},
		{Rows: 0, Cols: 6, Values: some}, {Rows: 6, Cols: 0, Values: some, Targets: targets[:6]},
		{Rows: 3, Cols: 2, Values: valuesOf(notClean[:5]...), Targets: targets[:3]}, {Rows: 1, Cols: 1, Values: some[:1], Targets: []int64{-9, math.MaxInt64}},
	}
	for _, d := range shapes {
		for _, c := range append([]api.Config{classes, means, {}, {Kind: -1}}, with(classes, 257), with(means, 1)) {
			d.Config = c
			put(t, d, api.ErrShape)
		}
	}
}

// P9.1: Put, of how many rows and columns there are: a number that is too great for its bytes as above its limit, and rows ahead of columns.
func TestPutSize(t *testing.T) {
	cells, targets := make([]float64, 1<<24+1), make([]int64, 1<<24)
	for _, x := range []struct {
		rows, cols int
		want       api.Errno
	}{
		{0, 0, api.ErrForm}, {0, 1, api.ErrForm}, {0, 1024, api.ErrForm}, {0, 1025, api.ErrForm}, {0, 1 << 24, api.ErrForm},
		{1, 0, api.ErrForm}, {3, 0, api.ErrForm}, {1 << 20, 0, api.ErrForm},
		{1<<20 + 1, 0, api.ErrLimit}, {1<<20 + 1, 1, api.ErrLimit}, {1 << 24, 0, api.ErrLimit}, {1 << 24, 1, api.ErrLimit}, {1 << 21, 8, api.ErrLimit},
		{1, 1025, api.ErrLimit}, {1, 65535, api.ErrLimit}, {1, 65536, api.ErrLimit}, {1, 65537, api.ErrLimit}, {2, 65536 + 1024, api.ErrLimit}, {1, 1 << 24, api.ErrLimit},
		{172961, 97, api.ErrLimit}, // 2^24 + 1
		{1, 1024, api.OK}, {1 << 20, 1, api.OK}, {1, 1, api.OK}, {255, 257, api.OK}, {70000, 3, api.OK},
	} {
		put(t, api.Dataset{Config: means, Rows: x.rows, Cols: x.cols, Values: cells[:x.rows*x.cols], Targets: targets[:x.rows]}, x.want)
	}
	more := make([]float64, 17<<20)
	put(t, api.Dataset{Config: means, Rows: 1 << 20, Cols: 17, Values: more, Targets: targets[:1<<20]}, api.ErrLimit)
	put(t, api.Dataset{Config: classes, Rows: 16385, Cols: 1024, Values: more[:16385*1024], Targets: targets[:16385]}, api.ErrLimit)
}

// P9.1: Put, where several are wrong at once: in the order of its bytes, of the config first.
func TestPutTwo(t *testing.T) {
	bad := math.Float64frombits(notClean[0])
	many := func(rows, cols int, value float64, target int64) api.Dataset {
		return api.Dataset{Rows: rows, Cols: cols, Values: slices.Repeat([]float64{value}, rows*cols), Targets: slices.Repeat([]int64{target}, rows)}
	}
	all := append(configFaults(), // and those whose numbers no bytes can tell
		configFault{api.Config{Kind: -1, Classes: 2, Bins: 2, Trees: 1, Leaf: 1, Pick: 1}, api.ErrForm},
		configFault{api.Config{Classes: math.MaxInt}, api.ErrLimit},
		configFault{api.Config{Classes: 2, Bins: 1<<16 + 2}, api.ErrLimit},
		configFault{api.Config{Classes: 2, Bins: 2, Trees: 1, Depth: -1}, api.ErrForm})
	for _, f := range all {
		for _, d := range []api.Dataset{many(0, 0, 0, 0), many(0, 1025, 0, 0), many(2, 0, 0, 999), many(1, 1025, bad, 1<<30), many(2, 2, bad, -1<<30), many(2, 2, 1, 1<<30), many(1<<20+1, 1, bad, -1)} {
			d.Config = f.c
			put(t, d, f.want)
		}
	}
	for _, c := range []api.Config{classes, means} {
		beyond := api.ErrRange
		if c.Kind == api.Means {
			beyond = api.ErrLimit
		}
		for _, x := range []struct {
			d    api.Dataset
			want api.Errno
		}{
			{many(1<<20+1, 0, 0, 1<<30), api.ErrLimit},
			{many(1<<20+1, 1, bad, 1<<30), api.ErrLimit},
			{many(5, 0, 0, 1<<30), api.ErrForm},
			{many(5, 1025, bad, 1<<30), api.ErrLimit},
			{many(5, 2, bad, 1<<30), api.ErrForm},
			{many(5, 2, 1, 1<<30), beyond},
		} {
			x.d.Config = c
			put(t, x.d, x.want)
		}
		last := many(3, 2, 1, 1<<30)
		last.Config, last.Values[5] = c, bad
		put(t, last, api.ErrForm)
	}
}

// P9.1: Column and Row, of each number that there is, and of others.
func TestColumnRow(t *testing.T) {
	off := []int{-1, -2, math.MinInt, math.MinInt + 1, math.MaxInt, math.MaxInt - 1, 1 << 32, 1 << 62, -1 << 62}
	for _, d := range append(good(), api.Dataset{Rows: 3, Cols: 3, Values: valuesOf(notClean...)}, api.Dataset{Rows: 4, Cols: 3, Values: valuesOf(areClean...), Targets: []int64{-1 << 60}}) {
		for j := range d.Cols {
			var want []uint64
			for i := range d.Rows {
				want = append(want, math.Float64bits(d.Values[j*d.Rows+i]))
			}
			if got := bitsOf(Column(d, j)); !slices.Equal(got, want) {
				t.Errorf("column %d of %v: %x, not %x", j, d, got, want)
			}
		}
		for i := range d.Rows {
			var want []uint64
			for j := range d.Cols {
				want = append(want, math.Float64bits(d.Values[j*d.Rows+i]))
			}
			if got := bitsOf(Row(d, i)); !slices.Equal(got, want) {
				t.Errorf("row %d of %v: %x, not %x", i, d, got, want)
			}
		}
		for _, n := range append(off, d.Cols, d.Cols+1) {
			if l := Column(d, n); len(l) != 0 {
				t.Errorf("column %d of %v: %v", n, d, l)
			}
		}
		for _, n := range append(off, d.Rows, d.Rows+1) {
			if l := Row(d, n); len(l) != 0 {
				t.Errorf("row %d of %v: %v", n, d, l)
			}
		}
	}
}

// P9.1: Column and Row, told by hand.
func TestColumnRowByHand(t *testing.T) {
	d := api.Dataset{Rows: 2, Cols: 3, Values: []float64{1, 2, 3, 4, 5, 6}}
	for j, want := range [][]float64{{1, 2}, {3, 4}, {5, 6}} {
		if l := Column(d, j); !slices.Equal(l, want) {
			t.Errorf("column %d: %v", j, l)
		}
	}
	for i, want := range [][]float64{{1, 3, 5}, {2, 4, 6}} {
		if l := Row(d, i); !slices.Equal(l, want) {
			t.Errorf("row %d: %v", i, l)
		}
	}
}

// P9.1: Column and Row, of values that are more or fewer than rows and columns multiplied, of these below 0, and of products that go round.
func TestColumnRowNone(t *testing.T) {
	some := make([]float64, 24)
	for _, d := range []api.Dataset{
		{}, {Rows: 3}, {Cols: 3}, {Rows: math.MaxInt}, {Cols: math.MaxInt},
		{Rows: 2, Cols: 3, Values: some[:5]}, {Rows: 2, Cols: 3, Values: some[:7]}, {Rows: 2, Cols: 3, Values: some[:4]}, {Rows: 2, Cols: 3, Values: some[:8]}, {Rows: 2, Cols: 3, Values: some}, {Rows: 2, Cols: 3},
		{Rows: 1, Cols: 1}, {Rows: 1, Cols: 1, Values: some[:2]}, {Values: some}, {Rows: 0, Cols: 3, Values: some[:3]}, {Rows: 3, Cols: 0, Values: some[:3]},
		{Rows: -2, Cols: -3, Values: some[:6]}, {Rows: -1, Cols: 3}, {Rows: 3, Cols: -1}, {Rows: -1, Cols: -1, Values: some[:1]}, {Rows: -1, Cols: 3, Values: some[:3]}, {Rows: 3, Cols: -1, Values: some[:3]},
		{Rows: math.MinInt, Cols: math.MinInt}, {Rows: math.MinInt, Cols: 2}, {Rows: 2, Cols: math.MinInt}, {Rows: math.MaxInt, Cols: math.MaxInt, Values: some[:1]}, {Rows: math.MinInt, Cols: -1},
		{Rows: 1 << 32, Cols: 1 << 32}, {Rows: 1 << 62, Cols: 4}, {Rows: 4, Cols: 1 << 62}, {Rows: 1 << 62, Cols: 8}, {Rows: 1<<62 + 1, Cols: 4, Values: some[:4]}, {Rows: 4, Cols: 1<<62 + 1, Values: some[:4]},
		{Rows: 1<<61 + 3, Cols: 8, Values: some}, {Rows: 8, Cols: 1<<61 + 3, Values: some}, {Rows: 1<<32 + 1, Cols: 1 << 32, Values: some}, {Rows: 2, Cols: 1<<63 - 1}, {Rows: 1<<63 - 1, Cols: 2},
		{Rows: 0x5555555555555557, Cols: 3, Values: some[:5]}, {Rows: 3, Cols: 0x5555555555555557, Values: some[:5]},
	} {
		for _, n := range []int{math.MinInt, -3, -2, -1, 0, 1, 2, 3, 4, 1 << 31, 1 << 61, 1 << 62, math.MaxInt - 1, math.MaxInt} {
			if l := Column(d, n); len(l) != 0 {
				t.Errorf("column %d of %d by %d of %d: %v", n, d.Rows, d.Cols, len(d.Values), l)
			}
			if l := Row(d, n); len(l) != 0 {
				t.Errorf("row %d of %d by %d of %d: %v", n, d.Rows, d.Cols, len(d.Values), l)
			}
		}
	}
}

// roomy is the list, with room behind it, and what stands in that room.
func roomy[T any](l []T, behind T) []T {
	whole := append(slices.Clone(l), slices.Repeat([]T{behind}, 16)...)
	return whole[:len(l)]
}

// spoil writes over a list, and over the room behind it.
func spoil[T any](l []T, x T) {
	for i := range l[:cap(l)] {
		l[:cap(l)][i] = x
	}
}

// P9.1: Put and Get share no memory with what was handed in, nor with another answer, and what was handed in stays as it was.
func TestMemory(t *testing.T) {
	for _, d := range good() {
		in := cloned(d)
		in.Values, in.Targets = roomy(d.Values, 77), roomy(d.Targets, 77)
		first, _ := Put(in)
		second, _ := Put(in)
		if !same(in, d) || !slices.Equal(in.Values[:cap(in.Values)][len(d.Values):][:16], slices.Repeat([]float64{77}, 16)) {
			t.Errorf("%v became %v", d, in)
		}
		spoil(first, 99)
		spoil(in.Values, 98)
		spoil(in.Targets, 97)
		if !bytes.Equal(second, raw(d)) {
			t.Errorf("%v: its bytes share memory", d)
		}

		b := roomy(second, 66)
		x, _ := Get(b)
		y, _ := Get(b)
		spoil(x.Values, 55)
		spoil(x.Targets, 54)
		if !bytes.Equal(b, raw(d)) || !bytes.Equal(b[:len(b)+16][len(b):], bytes.Repeat([]byte{66}, 16)) {
			t.Errorf("%x became %x", raw(d), b)
		}
		spoil(b, 53)
		if !same(y, d) {
			t.Errorf("%v: what was read shares memory", d)
		}
	}
}

// P9.1: what is handed in stays as it was, and is kept by none, where there is an error.
func TestMemoryWrong(t *testing.T) {
	for _, d := range good() {
		wrong := cloned(d)
		wrong.Values[len(wrong.Values)-1] = math.Float64frombits(notClean[3])
		in := cloned(wrong)
		put(t, in, api.ErrForm)
		if !same(in, wrong) {
			t.Errorf("%v became %v", wrong, in)
		}
		b := raw(wrong)
		get(t, b, api.ErrForm)
		if !bytes.Equal(b, raw(wrong)) {
			t.Errorf("%x became %x", raw(wrong), b)
		}
	}
}

// P9.1: Column and Row share no memory with the dataset, nor with another answer.
func TestMemoryColumnRow(t *testing.T) {
	for _, d := range good() {
		in := cloned(d)
		in.Values = roomy(d.Values, 77)
		for j := range d.Cols {
			x, y := Column(in, j), Column(in, j)
			want := bitsOf(Column(d, j))
			spoil(x, 55)
			if !same(in, d) || in.Values[:len(d.Values)+1][len(d.Values)] != 77 || !slices.Equal(bitsOf(y), want) {
				t.Errorf("column %d of %v shares memory: %v, %v", j, d, in, y)
			}
		}
		for i := range d.Rows {
			x, y := Row(in, i), Row(in, i)
			want := bitsOf(Row(d, i))
			spoil(x, 55)
			if !same(in, d) || in.Values[:len(d.Values)+1][len(d.Values)] != 77 || !slices.Equal(bitsOf(y), want) {
				t.Errorf("row %d of %v shares memory: %v, %v", i, d, in, y)
			}
		}
		column, row := Column(in, 0), Row(in, 0)
		wantColumn, wantRow := bitsOf(Column(d, 0)), bitsOf(Row(d, 0))
		spoil(in.Values, 44)
		if !slices.Equal(bitsOf(column), wantColumn) || !slices.Equal(bitsOf(row), wantRow) {
			t.Errorf("%v: its column 0 or row 0 shares its memory", d)
		}
	}
}

// P9.1: a nil list is the same as an empty one.
func TestNil(t *testing.T) {
	for _, d := range []api.Dataset{{Config: means}, {Config: means, Rows: 0, Cols: 2}} {
		put(t, d, api.ErrForm)
		d.Values, d.Targets = []float64{}, []int64{}
		put(t, d, api.ErrForm)
	}
	put(t, api.Dataset{Config: means, Rows: 1, Cols: 0, Values: []float64{}, Targets: []int64{0}}, api.ErrForm)
	put(t, api.Dataset{Config: means, Rows: 1, Cols: 1, Values: []float64{}, Targets: []int64{}}, api.ErrShape)
}

// pick is one of these.
func pick[T any](r *rand.Rand, l ...T) T { return l[r.Intn(len(l))] }

// anyGood is a dataset that may be, its numbers at an end now and then.
func anyGood(r *rand.Rand) api.Dataset {
	c := api.Config{Kind: r.Intn(2), Bins: pick(r, 2, 256, 2+r.Intn(255)), Trees: pick(r, 1, 4096, 1+r.Intn(4096)), Depth: pick(r, 0, 32, r.Intn(33)), Leaf: pick(r, 1, 1<<20, 1+r.Intn(1<<20)), Pick: pick(r, 1, 1024, 1+r.Intn(1024))}
	if c.Kind == api.Classes {
		c.Classes = pick(r, 2, 256, 2+r.Intn(255))
	}
	d := api.Dataset{Config: c, Rows: 1 + r.Intn(9), Cols: 1 + r.Intn(6)}
	for range d.Rows * d.Cols {
		x := r.Uint64()
		if f := math.Float64frombits(x); math.IsNaN(f) || r.Intn(3) == 0 {
			x = pick(r, areClean...)
		}
		d.Values = append(d.Values, math.Float64frombits(x))
	}
	for range d.Rows {
		if c.Kind == api.Means {
			d.Targets = append(d.Targets, pick(r, -1<<20, 1<<20, 0, r.Int63n(2<<20+1)-1<<20))
		} else {
			d.Targets = append(d.Targets, pick(r, 0, int64(c.Classes)-1, r.Int63n(int64(c.Classes))))
		}
	}
	return d
}

// P9.2: there and back: each dataset that may be is read from its bytes as it was, values bit by bit.
func TestThereAndBack(t *testing.T) {
	r := rand.New(rand.NewSource(92))
	for range 5000 {
		d := anyGood(r)
		b, e := Put(d)
		if e != api.OK || !bytes.Equal(b, raw(d)) {
			t.Fatalf("%v: %x, %d", d, b, e)
		}
		if x, e := Get(b); e != api.OK || !same(x, d) {
			t.Fatalf("%v: %x is read as %v, %d", d, b, x, e)
		}
	}
}

// P9.2: one way: whatever bytes are read as a dataset are its bytes, each of a few made each other one.
func TestOneWay(t *testing.T) {
	for _, d := range good() {
		for at := range raw(d) {
			for x := range 256 {
				b := raw(d)
				b[at] = byte(x)
				oneWay(t, b)
			}
		}
	}
}

// P9.2: one way, of bytes of which some are made others, taken out or put in.
func TestOneWayMany(t *testing.T) {
	r := rand.New(rand.NewSource(93))
	are, all := 0, 30000
	for range all {
		b := raw(anyGood(r))
		for range r.Intn(3) {
			at := r.Intn(len(b))
			switch r.Intn(8) {
			case 0:
				b = slices.Delete(b, at, at+1)
			case 1:
				b = slices.Insert(b, at, byte(r.Intn(256)))
			case 2:
				b = b[:max(at, 1)]
			default:
				b[at] = byte(r.Intn(256) >> r.Intn(8))
			}
		}
		if oneWay(t, b) {
			are++
		}
	}
	if are < all/10 || are > all*9/10 {
		t.Errorf("%d of %d are datasets: too few of one sort", are, all)
	}
	for range 10000 {
		b := make([]byte, r.Intn(100))
		r.Read(b)
		oneWay(t, b)
		oneWay(t, append([]byte("HORN"), b...))
	}
}

// oneWay looks at bytes, and tells whether they are a dataset's.
func oneWay(t *testing.T, b []byte) bool {
	t.Helper()
	d, e := Get(b)
	if want := shown(b); e != want {
		t.Errorf("%x: %d, not %d", b, e, want)
	}
	if e != api.OK {
		if !same(d, api.Dataset{}) {
			t.Errorf("%x: %v beside an error", b, d)
		}
		return false
	}
	if back, e := Put(d); e != api.OK || !bytes.Equal(back, b) {
		t.Errorf("%x is read as %v, whose bytes are %x, %d", b, d, back, e)
	}
	return true
}

// shown is the error that bytes show, told by another way than the program's: by places.
func shown(b []byte) api.Errno {
	switch {
	case len(b) < atConfig:
		return api.ErrShort
	case string(b[:atConfig]) != "HORN":
		return api.ErrForm
	case len(b) < atRows:
		return api.ErrShort
	}
	if e := shownConfig(b[atConfig:atRows]); e != api.OK {
		return e
	}
	if len(b) < atCols {
		return api.ErrShort
	}
	rows := int(binary.BigEndian.Uint32(b[atRows:]))
	switch {
	case rows == 0:
		return api.ErrForm
	case rows > 1048576:
		return api.ErrLimit
	case len(b) < atValues:
		return api.ErrShort
	}
	cols := int(binary.BigEndian.Uint16(b[atCols:]))
	switch {
	case cols == 0:
		return api.ErrForm
	case cols > 1024 || rows*cols > 16777216:
		return api.ErrLimit
	}
	return shownItems(b, rows, cols)
}

// shownConfig is the error that 14 bytes of a config show.
func shownConfig(b []byte) api.Errno {
	n := func(at int) int { return int(b[at])*256 + int(b[at+1]) }
	leaf := n(8)*65536 + n(10)
	switch {
	case b[0] > 1 || b[0] == 0 && n(1) < 2 || b[0] == 1 && n(1) > 0:
		return api.ErrForm
	case n(1) > 256:
		return api.ErrLimit
	case n(3) < 2:
		return api.ErrForm
	case n(3) > 256:
		return api.ErrLimit
	case n(5) < 1:
		return api.ErrForm
	case n(5) > 4096 || b[7] > 32:
		return api.ErrLimit
	case leaf < 1:
		return api.ErrForm
	case leaf > 1048576:
		return api.ErrLimit
	case n(12) < 1:
		return api.ErrForm
	case n(12) > 1024:
		return api.ErrLimit
	}
	return api.OK
}

// shownItems is the error that values and targets show, and that of bytes behind them.
func shownItems(b []byte, rows, cols int) api.Errno {
	means, many := b[atConfig] == 1, int64(b[atConfig+1])*256+int64(b[atConfig+2])
	for at := range rows*cols + rows {
		place := atValues + 8*at
		if place+8 > len(b) {
			return api.ErrShort
		}
		x := binary.BigEndian.Uint64(b[place:])
		target := int64(x)
		switch f := math.Float64frombits(x); {
		case at < rows*cols && (x == 1<<63 || math.IsNaN(f) && x != cleanNaN):
			return api.ErrForm
		case at < rows*cols:
		case means && (target > 1048576 || target < -1048576):
			return api.ErrLimit
		case !means && (target < 0 || target >= many):
			return api.ErrRange
		}
	}
	if len(b) > atValues+8*(rows*cols+rows) {
		return api.ErrForm
	}
	return api.OK
}
