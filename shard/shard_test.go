package shard

import (
	"math"
	"math/big"
	"math/rand"
	"slices"
	"testing"

	"hornbeam/api"
)

const (
	top    = math.MaxInt64
	bottom = math.MinInt64
	most   = api.MaxCells
)

// mark is what stands behind lists that are handed in, spoilt what is written into lists that were answered, or that were handed in before.
const (
	mark   = 4242
	spoilt = 12345
)

// extremes are numbers at which counting goes wrong first.
var extremes = []int{math.MinInt, math.MinInt + 1, math.MaxInt, math.MaxInt - 1, 1 << 32, -1 << 32, 1<<32 + 1, 1 << 31, -1 << 31, 1 << 62}

// wrongParts are numbers of parts that there aren't.
var wrongParts = append([]int{-1, 0, 65, 66, -64, 128, 256}, extremes...)

// partsOf are numbers of parts for so many things: few, many, and about as many as there are things.
func partsOf(n int) []int {
	l := []int{1, 2, 3, 63, 64}
	for _, parts := range []int{n - 1, n, n + 1} {
		if parts >= 1 && parts <= 64 {
			l = append(l, parts)
		}
	}
	slices.Sort(l)
	return slices.Compact(l)
}

// roomy is the list, with room behind it that is written on, into which who appends would write.
func roomy[T any](l []T, mark T) []T { return append(slices.Clone(l), mark, mark)[:len(l)] }

// whole is a copy of a list that is roomy, with what stands behind it.
func whole[T any](l []T) []T { return slices.Clone(l[:len(l)+2]) }

// spoil writes into a list, and into the room behind it.
func spoil[T any](l []T, mark T) {
	l = l[:cap(l)]
	for i := range l {
		l[i] = mark
	}
}

func same(a, b api.Hist) bool {
	return a.Kind == b.Kind && a.Bins == b.Bins && a.Classes == b.Classes && slices.Equal(a.Counts, b.Counts) && slices.Equal(a.Moments, b.Moments)
}

// handed is what Hist and Parts are handed to read.
type handed struct {
	s    api.Sample
	rows []int
}

// roomy is the same in memory of its own, with lists that are roomy.
func (x handed) roomy() handed {
	x.s.Matrix.Cells = roomy(x.s.Matrix.Cells, mark)
	x.s.Targets, x.s.Weights, x.rows = roomy(x.s.Targets, mark), roomy(x.s.Weights, mark), roomy(x.rows, mark)
	return x
}

// whole is a copy of one that is roomy, with what stands behind its lists.
func (x handed) whole() handed {
	x.s.Matrix.Cells = whole(x.s.Matrix.Cells)
	x.s.Targets, x.s.Weights, x.rows = whole(x.s.Targets), whole(x.s.Weights), whole(x.rows)
	return x
}

func (x handed) spoil() {
	spoil(x.s.Matrix.Cells, spoilt)
	spoil(x.s.Targets, spoilt)
	spoil(x.s.Weights, spoilt)
	spoil(x.rows, spoilt)
}

func (x handed) same(y handed) bool {
	return slices.Equal(x.s.Matrix.Cells, y.s.Matrix.Cells) && slices.Equal(x.s.Targets, y.s.Targets) && slices.Equal(x.s.Weights, y.s.Weights) && slices.Equal(x.rows, y.rows)
}

// answerIs holds what a call answers, and that it shares no memory with what is handed in, nor with another answer, and that what is handed in stays as it was.
func answerIs(t *testing.T, x handed, call func(x handed) (api.Hist, api.Errno), want api.Hist, wantErr api.Errno) {
	t.Helper()
	x = x.roomy()
	was := x.whole()
	h, e := call(x)
	again, _ := call(x)
	if !same(h, want) || e != wantErr {
		t.Fatalf("%+v: %v %v, not %v %v", x, h, e, want, wantErr)
	}
	spoil(h.Counts, spoilt)
	spoil(h.Moments, api.Moment{Count: spoilt, Sum: spoilt, Square: spoilt})
	if !x.whole().same(was) {
		t.Fatalf("written into: %+v", x)
	}
	x.spoil()
	if !same(again, want) {
		t.Fatalf("what was answered became %v, not %v", again, want)
	}
}

// histIs holds what Hist answers.
func histIs(t *testing.T, s api.Sample, col int, rows []int, want api.Hist, wantErr api.Errno) {
	t.Helper()
	answerIs(t, handed{s, rows}, func(x handed) (api.Hist, api.Errno) { return Hist(x.s, col, x.rows) }, want, wantErr)
}

// partsAre holds what Parts answers, in so many parts.
func partsAre(t *testing.T, s api.Sample, col int, rows []int, parts int, want api.Hist, wantErr api.Errno) {
	t.Helper()
	answerIs(t, handed{s, rows}, func(x handed) (api.Hist, api.Errno) { return Parts(x.s, col, x.rows, parts) }, want, wantErr)
}

// wrongPartsAre holds that Parts has no answer in parts that there aren't, whatever else is wrong.
func wrongPartsAre(t *testing.T, s api.Sample, col int, rows []int) {
	t.Helper()
	for _, parts := range wrongParts {
		if h, e := Parts(s, col, rows, parts); !same(h, api.Hist{}) || e != api.ErrArg {
			t.Fatalf("column %d, rows %v, in %d parts: %v %v", col, rows, parts, h, e)
		}
	}
}

// is holds what Hist answers, which is known, and what Parts answers, in several numbers of parts, which is told.
func is(t *testing.T, s api.Sample, col int, rows []int, want api.Hist, wantErr api.Errno) {
	t.Helper()
	histIs(t, s, col, rows, want, wantErr)
	wrongPartsAre(t, s, col, rows)
	for _, parts := range partsOf(len(rows)) {
		all, e := toldParts(s, col, rows, parts)
		partsAre(t, s, col, rows, parts, all, e)
	}
	partsAre(t, s, col, rows, 1, want, wantErr)
}

// isTold holds what Hist and Parts answer, all of which is told.
func isTold(t *testing.T, s api.Sample, col int, rows []int) {
	t.Helper()
	want, e := told(s, col, rows)
	is(t, s, col, rows, want, e)
}

// isNone holds that neither Hist nor Parts have an answer, of the error that both tell in however many parts.
func isNone(t *testing.T, s api.Sample, col int, rows []int, want api.Errno) {
	t.Helper()
	histIs(t, s, col, rows, api.Hist{}, want)
	wrongPartsAre(t, s, col, rows)
	for _, parts := range partsOf(len(rows)) {
		partsAre(t, s, col, rows, parts, api.Hist{}, want)
	}
}

// part is the places of a part of n things, told by great numbers: as many ahead of it as parts of the lesser size would have, and one more of each that is greater.
func part(n, parts, i int) api.Span {
	size, more := new(big.Int).DivMod(big.NewInt(int64(n)), big.NewInt(int64(parts)), new(big.Int))
	start := func(i int) int {
		x := new(big.Int).Mul(size, big.NewInt(int64(i)))
		return int(x.Add(x, big.NewInt(min(int64(i), more.Int64()))).Int64())
	}
	return api.Span{From: start(i), To: start(i + 1)}
}

// table is a histogram's numbers as great ones: of each bin those of each class, or of a moment.
type table struct {
	kind, bins, width int
	all               []*big.Int
}

// blank is a table of zeros, for a config.
func blank(c api.Config) table {
	x := table{kind: c.Kind, bins: c.Bins + 1, width: c.Classes}
	if c.Kind == api.Means {
		x.width = 3
	}
	for range x.bins * x.width {
		x.all = append(x.all, new(big.Int))
	}
	return x
}

// add adds to the numbers from a place on; it tells whether all stay within 64 bits.
func (x table) add(place int, more ...*big.Int) bool {
	for i, n := range more {
		if sum := x.all[place+i]; !n.IsInt64() || !sum.Add(sum, n).IsInt64() {
			return false
		}
	}
	return true
}

// hist is the histogram of a table.
func (x table) hist() api.Hist {
	h := api.Hist{Kind: x.kind, Bins: x.bins}
	if x.kind == api.Classes {
		h.Classes = x.width
		for _, n := range x.all {
			h.Counts = append(h.Counts, n.Int64())
		}
		return h
	}
	for i := 0; i < len(x.all); i += 3 {
		h.Moments = append(h.Moments, api.Moment{Count: x.all[i].Int64(), Sum: x.all[i+1].Int64(), Square: x.all[i+2].Int64()})
	}
	return h
}

// tell adds a row to a table, straight by the words of chapters 12 and 13.
func tell(x table, s api.Sample, col, row int) api.Errno {
	if row < 0 || row >= s.Matrix.Rows {
		return api.ErrRange
	}
	bin, target, weight := int(s.Matrix.Cells[col*s.Matrix.Rows+row]), big.NewInt(s.Targets[row]), big.NewInt(int64(s.Weights[row]))
	if bin > s.Config.Bins || x.kind == api.Classes && (target.Sign() < 0 || target.Cmp(big.NewInt(int64(x.width))) >= 0) {
		return api.ErrRange
	}
	if weight.Sign() < 0 {
		return api.ErrArg
	}
	place, more := bin*x.width, []*big.Int{weight}
	if x.kind == api.Classes {
		place += int(target.Int64())
	} else {
		sum := new(big.Int).Mul(target, weight)
		more = append(more, sum, new(big.Int).Mul(target, sum))
	}
	if !x.add(place, more...) {
		return api.ErrOver
	}
	return api.OK
}

// tellAll is the table of rows, of a sample that is right and a column that it has.
func tellAll(s api.Sample, col int, rows []int) (table, api.Errno) {
	x := blank(s.Config)
	for _, row := range rows {
		if e := tell(x, s, col, row); e != api.OK {
			return table{}, e
		}
	}
	return x, api.OK
}

// told is what Hist answers.
func told(s api.Sample, col int, rows []int) (api.Hist, api.Errno) {
	x, e := tellAll(s, col, rows)
	return x.hist(), e
}

// toldParts is what Parts answers: all parts are told ahead of putting them together, number by number.
func toldParts(s api.Sample, col int, rows []int, parts int) (api.Hist, api.Errno) {
	tables := []table{}
	for i := range parts {
		at := part(len(rows), parts, i)
		x, e := tellAll(s, col, rows[at.From:at.To])
		if e != api.OK {
			return api.Hist{}, e
		}
		tables = append(tables, x)
	}
	for _, x := range tables[1:] {
		if !tables[0].add(0, x.all...) {
			return api.Hist{}, api.ErrOver
		}
	}
	return tables[0].hist(), api.OK
}

// ofClasses is a sample of the kind Classes, of five rows and three columns.
func ofClasses() api.Sample {
	return api.Sample{
		Config:  api.Config{Kind: api.Classes, Classes: 3, Bins: 4, Trees: 9, Depth: 10, Leaf: 11, Pick: 12},
		Matrix:  api.Matrix{Rows: 5, Cols: 3, Cells: []uint16{0, 1, 2, 3, 4, 4, 4, 1, 1, 0, 2, 2, 2, 2, 2}},
		Targets: []int64{0, 2, 1, 2, 0},
		Weights: []int{1, 2, 0, 3, 4},
	}
}

// ofMeans is a sample of the kind Means, of as many rows and columns.
func ofMeans() api.Sample {
	s := ofClasses()
	s.Config.Kind, s.Config.Classes = api.Means, 0
	s.Targets = []int64{3, -2, 0, 7, -5}
	return s
}

// both are samples of each kind.
func both() []api.Sample { return []api.Sample{ofClasses(), ofMeans()} }

// zeros is a sample's histogram without rows.
func zeros(s api.Sample) api.Hist { return blank(s.Config).hist() }

// counts is a histogram of so many classes, moments one of moments, whose numbers are given behind one another.
func counts(classes int, l ...int64) api.Hist {
	return api.Hist{Kind: api.Classes, Bins: len(l) / classes, Classes: classes, Counts: l}
}

func moments(l ...int64) api.Hist {
	h := api.Hist{Kind: api.Means, Bins: len(l) / 3}
	for i := 0; i < len(l); i += 3 {
		h.Moments = append(h.Moments, api.Moment{Count: l[i], Sum: l[i+1], Square: l[i+2]})
	}
	return h
}

// numbers are 0 to ahead of n.
func numbers(n int) []int {
	l := []int{}
	for i := range n {
		l = append(l, i)
	}
	return l
}

// one is a sample of one column, whose rows all have the bin 1 of two.
func one(kind int, targets []int64, weights []int) api.Sample {
	s := both()[kind]
	s.Config.Bins = 2
	s.Targets, s.Weights = targets, weights
	s.Matrix = api.Matrix{Rows: len(targets), Cols: 1, Cells: slices.Repeat([]uint16{1}, len(targets))}
	return s
}

// P13.1: the chapter's example.
func TestExample(t *testing.T) {
	if l := Cut(7, 3); !slices.Equal(l, []api.Span{{From: 0, To: 3}, {From: 3, To: 5}, {From: 5, To: 7}}) {
		t.Fatal(l)
	}
}

// P13.1: few things in few parts.
func TestCutFew(t *testing.T) {
	for _, x := range []struct {
		n, parts int
		want     []api.Span
	}{
		{0, 1, []api.Span{{}}}, {1, 1, []api.Span{{From: 0, To: 1}}}, {9, 1, []api.Span{{From: 0, To: 9}}},
		{0, 2, []api.Span{{}, {}}}, {1, 2, []api.Span{{From: 0, To: 1}, {From: 1, To: 1}}}, {2, 2, []api.Span{{From: 0, To: 1}, {From: 1, To: 2}}},
		{2, 3, []api.Span{{From: 0, To: 1}, {From: 1, To: 2}, {From: 2, To: 2}}}, {4, 3, []api.Span{{From: 0, To: 2}, {From: 2, To: 3}, {From: 3, To: 4}}},
		{5, 3, []api.Span{{From: 0, To: 2}, {From: 2, To: 4}, {From: 4, To: 5}}}, {6, 3, []api.Span{{From: 0, To: 2}, {From: 2, To: 4}, {From: 4, To: 6}}},
	} {
		if l := Cut(x.n, x.parts); !slices.Equal(l, x.want) {
			t.Fatalf("%d in %d: %v, not %v", x.n, x.parts, l, x.want)
		}
	}
}

// P13.1: the parts stand one behind the other, from the first thing to the last one, the greater ones first, none more than one greater than another.
func TestCut(t *testing.T) {
	for parts := 1; parts <= 64; parts++ {
		things := []int{0, 1, 2, parts - 1, parts, parts + 1, 2*parts - 1, 2 * parts, 2*parts + 1, 1000 * parts, 1000*parts + 1, 1<<32 + 5, math.MaxInt / parts * parts, math.MaxInt - 1, math.MaxInt}
		for _, n := range append(things, numbers(200)...) {
			l, again := Cut(n, parts), Cut(n, parts)
			from := 0
			for i, x := range l {
				if size := x.To - x.From; x.From != from || size < 0 || size > l[0].To-l[0].From || size < n/parts || size-n/parts > 1 || i > 0 && size > l[i-1].To-l[i-1].From {
					t.Fatalf("%d in %d: %v", n, parts, l)
				}
				if want := part(n, parts, i); x != want {
					t.Fatalf("%d in %d: part %d is %v, not %v", n, parts, i, x, want)
				}
				from = x.To
			}
			if len(l) != parts || from != n {
				t.Fatalf("%d in %d: %v", n, parts, l)
			}
			spoil(l, api.Span{From: spoilt, To: spoilt})
			if again[0].From != 0 || again[parts-1].To != n {
				t.Fatalf("%d in %d: what was answered became %v", n, parts, again)
			}
		}
	}
}

// P13.1: fewer things than none, and parts that there aren't.
func TestCutWrong(t *testing.T) {
	fewer := []int{-1, -2, -64, -65, math.MinInt, math.MinInt + 1, -1 << 32}
	for _, parts := range slices.Concat(numbers(66), wrongParts) {
		for _, n := range fewer {
			if l := Cut(n, parts); len(l) > 0 {
				t.Fatalf("%d in %d: %v", n, parts, l)
			}
		}
	}
	for _, parts := range wrongParts {
		for _, n := range []int{0, 1, 2, 63, 64, 65, 66, parts - 1, parts, parts + 1, 1000 * parts, 64000, math.MaxInt} {
			if l := Cut(n, parts); len(l) > 0 {
				t.Fatalf("%d in %d: %v", n, parts, l)
			}
		}
	}
}

// isRight holds that a sample is right, and what there is of it.
func isRight(t *testing.T, s api.Sample) {
	t.Helper()
	if !Right(s) {
		t.Fatalf("%+v isn't right", s)
	}
	for col := range s.Matrix.Cols {
		isTold(t, s, col, numbers(s.Matrix.Rows))
	}
}

// isWrong holds that a sample isn't right, and that there is nothing of it, whatever is asked.
func isWrong(t *testing.T, s api.Sample) {
	t.Helper()
	if Right(s) {
		t.Fatalf("%+v is right", s)
	}
	for _, col := range []int{0, 1, -1, s.Matrix.Cols - 1, s.Matrix.Cols, math.MinInt, math.MaxInt} {
		for _, rows := range [][]int{nil, {0}, {0, 1, 2}, {-1}, {s.Matrix.Rows - 1}, {math.MaxInt}} {
			isNone(t, s, col, rows, api.ErrShape)
		}
	}
}

// field is where a field stands in a config, and its ends.
type field struct {
	at          func(c *api.Config) *int
	least, most int
}

// fields are those of a config of the sample's kind.
func fields(s api.Sample) []field {
	kind, classes := s.Config.Kind, field{func(c *api.Config) *int { return &c.Classes }, 2, 256}
	if kind == api.Means {
		classes.least, classes.most = 0, 0
	}
	return []field{
		{func(c *api.Config) *int { return &c.Kind }, kind, kind}, // the other kind has other classes
		classes,
		{func(c *api.Config) *int { return &c.Bins }, 2, 256},
		{func(c *api.Config) *int { return &c.Trees }, 1, 4096},
		{func(c *api.Config) *int { return &c.Depth }, 0, 32},
		{func(c *api.Config) *int { return &c.Leaf }, 1, 1 << 20},
		{func(c *api.Config) *int { return &c.Pick }, 1, 1024},
	}
}

// P13.1: samples are right by each field of the config just within its ends, and aren't just beyond them.
func TestRightByConfig(t *testing.T) {
	for _, s := range both() {
		isRight(t, s)
		for _, f := range fields(s) {
			for _, n := range []int{f.least, f.most} {
				c := s
				*f.at(&c.Config) = n
				isRight(t, c)
			}
			for _, n := range append([]int{f.least - 1, f.most + 1}, extremes...) {
				c := s
				*f.at(&c.Config) = n
				isWrong(t, c)
			}
		}
		c := s
		c.Config.Classes, c.Config.Bins = max(c.Config.Classes, 256*(1-c.Config.Kind)), 256
		isRight(t, c) // of as many bins and classes as there may be
		isWrong(t, api.Sample{Matrix: s.Matrix, Targets: s.Targets, Weights: s.Weights})
	}
	isWrong(t, api.Sample{})
}

// P13.1: samples whose matrix isn't right, though they have as many Targets and Weights as it says rows, where there may be so many.
func TestWrongMatrix(t *testing.T) {
	for _, s := range both() {
		for _, x := range []struct{ rows, cols, cells int }{
			{5, 3, 14}, {5, 3, 16}, {5, 3, 0}, {5, 2, 15}, {5, 4, 15}, {4, 3, 15}, {6, 3, 15}, {15, 0, 15}, {0, 15, 15}, {0, 0, 1}, {0, 3, 1}, {1, 1, 0}, {1, 1, 2}, {5, 0, 1},
			{-1, 3, 0}, {-1, 0, 0}, {-1, -1, 1}, {-5, -3, 15}, {5, -3, 15}, {5, -1, 0}, {0, -1, 0}, {0, most + 1, 0}, {0, 2 * most, 0}, {0, 1 << 32, 0},
			{math.MinInt, 0, 0}, {math.MinInt, 3, 0}, {math.MinInt, 2, 0}, {math.MaxInt, 0, 0}, {math.MaxInt, 3, 0}, {math.MaxInt, math.MaxInt, 1},
			{0, math.MinInt, 0}, {0, math.MaxInt, 0}, {5, math.MinInt, 0}, {5, math.MaxInt, 15}, {2, math.MinInt, 0}, {2, math.MinInt + 3, 6}, {4, 1<<62 + 1, 4},
		} {
			s.Matrix = api.Matrix{Rows: x.rows, Cols: x.cols, Cells: make([]uint16, x.cells)}
			n := max(0, x.rows)
			if n > 100 {
				n = 0
			}
			s.Targets, s.Weights = make([]int64, n), make([]int, n)
			isWrong(t, s)
		}
	}
}

// P13.1: as many rows and columns as a matrix may have, and more.
func TestRightByLimits(t *testing.T) {
	targets, weights := make([]int64, most+1), make([]int, most+1)
	for _, s := range both() {
		for _, x := range []struct {
			rows, cols int
			want       bool
		}{{most, 0, true}, {most - 1, 0, true}, {most + 1, 0, false}, {0, most, true}, {0, most + 1, false}, {0, most - 1, true}} {
			s.Matrix = api.Matrix{Rows: x.rows, Cols: x.cols}
			s.Targets, s.Weights = targets[:x.rows], weights[:x.rows]
			if Right(s) != x.want {
				t.Fatalf("%+v", x)
			}
			want, wantErr := api.Hist{}, api.ErrShape
			if x.want && x.cols > 0 {
				want, wantErr = zeros(s), api.OK
			}
			if h, e := Hist(s, x.cols-1, nil); !same(h, want) || e != wantErr {
				t.Fatalf("%+v: %v %v", x, h, e)
			}
		}
	}
}

// P13.1: Targets and Weights by one more or fewer, and none.
func TestWrongLists(t *testing.T) {
	for _, s := range both() {
		for _, n := range []int{0, 1, 4, 6, 15} {
			targets, weights := make([]int64, n), make([]int, n)
			for _, c := range []api.Sample{
				{Config: s.Config, Matrix: s.Matrix, Targets: targets, Weights: s.Weights},
				{Config: s.Config, Matrix: s.Matrix, Targets: s.Targets, Weights: weights},
				{Config: s.Config, Matrix: s.Matrix, Targets: targets, Weights: weights},
			} {
				isWrong(t, c)
			}
		}
		isWrong(t, api.Sample{Config: s.Config, Matrix: s.Matrix, Weights: s.Weights})
		isWrong(t, api.Sample{Config: s.Config, Matrix: s.Matrix, Targets: s.Targets})
		isWrong(t, api.Sample{Config: s.Config, Matrix: s.Matrix})
		isWrong(t, api.Sample{Config: s.Config, Matrix: s.Matrix, Targets: make([]int64, 4), Weights: make([]int, 6)})
	}
}

// P13.1: samples without rows, and without columns; a nil list is as an empty one.
func TestNoRows(t *testing.T) {
	for _, s := range both() {
		for _, c := range []api.Sample{
			{Config: s.Config, Matrix: api.Matrix{Cols: 2}},
			{Config: s.Config, Matrix: api.Matrix{Cols: 2, Cells: []uint16{}}, Targets: []int64{}, Weights: []int{}},
		} {
			isRight(t, c)
			is(t, c, 0, nil, zeros(s), api.OK)
			is(t, c, 1, []int{}, zeros(s), api.OK)
			for _, row := range append([]int{0, 1, -1}, extremes...) {
				isNone(t, c, 1, []int{row}, api.ErrRange)
			}
			isNone(t, c, 2, nil, api.ErrShape)
			c.Targets = []int64{1}
			isWrong(t, c)
			c.Targets, c.Weights = nil, []int{1}
			isWrong(t, c)
		}
		none := api.Sample{Config: s.Config}
		isRight(t, none)
		isNone(t, none, 0, nil, api.ErrShape)
		none.Matrix.Rows, none.Targets, none.Weights = 2, []int64{0, 1}, []int{1, 1}
		isRight(t, none)
		isNone(t, none, 0, []int{0}, api.ErrShape)
		isNone(t, none, -1, nil, api.ErrShape)
	}
}

// P13.1: ordinary histograms of both kinds.
func TestHist(t *testing.T) {
	s := ofClasses()
	is(t, s, 0, numbers(5), counts(3, 1, 0, 0, 0, 0, 2, 0, 0, 0, 0, 0, 3, 4, 0, 0), api.OK)
	is(t, s, 1, numbers(5), counts(3, 4, 0, 0, 0, 0, 3, 0, 0, 0, 0, 0, 0, 1, 0, 2), api.OK)
	is(t, s, 2, numbers(5), counts(3, 0, 0, 0, 0, 0, 0, 5, 0, 5, 0, 0, 0, 0, 0, 0), api.OK)
	is(t, s, 1, []int{3, 1, 3}, counts(3, 0, 0, 0, 0, 0, 6, 0, 0, 0, 0, 0, 0, 0, 0, 2), api.OK)
	is(t, s, 0, []int{2}, counts(3, make([]int64, 15)...), api.OK) // of the weight 0
	s = ofMeans()
	is(t, s, 0, numbers(5), moments(1, 3, 9, 2, -4, 8, 0, 0, 0, 3, 21, 147, 4, -20, 100), api.OK)
	is(t, s, 1, numbers(5), moments(4, -20, 100, 3, 21, 147, 0, 0, 0, 0, 0, 0, 3, -1, 17), api.OK)
	is(t, s, 2, numbers(5), moments(0, 0, 0, 0, 0, 0, 10, 0, 264, 0, 0, 0, 0, 0, 0), api.OK)
	is(t, s, 1, []int{3, 1, 3}, moments(0, 0, 0, 6, 42, 294, 0, 0, 0, 0, 0, 0, 2, -4, 8), api.OK)
	is(t, s, 0, []int{2}, moments(make([]int64, 15)...), api.OK)
}

// P13.1: each column there is, and such as there aren't, which are told ahead of rows that aren't.
func TestColumns(t *testing.T) {
	for _, s := range both() {
		for col := range 3 {
			isTold(t, s, col, numbers(5))
			is(t, s, col, nil, zeros(s), api.OK)
		}
		for _, col := range append([]int{-1, -2, -3, 3, 4, 5, 15}, extremes...) {
			for _, rows := range [][]int{nil, {0}, {4, 3, 2, 1, 0}, {-1}, {5}, {math.MaxInt, math.MinInt}} {
				isNone(t, s, col, rows, api.ErrShape)
			}
		}
	}
}

// P13.1: no rows, each row there is, one several times, and such as there aren't, at each place.
func TestRows(t *testing.T) {
	for _, s := range both() {
		for col := range 3 {
			is(t, s, col, nil, zeros(s), api.OK)
			is(t, s, col, []int{}, zeros(s), api.OK)
			for row := range 5 {
				for n := range 70 {
					isTold(t, s, col, slices.Repeat([]int{row}, n))
				}
			}
			for _, row := range append([]int{-1, -2, -5, 5, 6, 9, 10}, extremes...) {
				isNone(t, s, col, []int{row}, api.ErrRange)
				for place := range 4 {
					isNone(t, s, col, slices.Insert([]int{0, 4, 2}, place, row), api.ErrRange)
				}
			}
		}
	}
}

// P13.1: bins that the config has just, and such as it hasn't, which matter only of the column and the rows that are asked.
func TestBins(t *testing.T) {
	for _, s := range both() {
		for _, n := range []int{2, 3, 254, 255, 256} {
			s.Config.Bins = n
			s.Matrix = api.Matrix{Rows: 5, Cols: 2, Cells: []uint16{0, uint16(n), uint16(n + 1), uint16(n + 2), math.MaxUint16, 1, 1, uint16(n - 1), 2, 0}}
			is(t, s, 0, []int{1, 0}, toldBins(t, s), api.OK)
			isTold(t, s, 1, numbers(5))
			for row := 2; row < 5; row++ {
				isNone(t, s, 0, []int{row}, api.ErrRange)
				isNone(t, s, 0, []int{0, 1, row, 0}, api.ErrRange)
			}
		}
	}
}

// toldBins is what TestBins' rows 0 and 1 come to: the first bin and the last one.
func toldBins(t *testing.T, s api.Sample) api.Hist {
	h := zeros(s)
	if s.Config.Kind == api.Classes {
		h.Counts[0], h.Counts[len(h.Counts)-1] = 1, 2
	} else {
		h.Moments[0], h.Moments[len(h.Moments)-1] = api.Moment{Count: 1, Sum: 3, Square: 9}, api.Moment{Count: 2, Sum: -4, Square: 8}
	}
	if h.Bins != s.Config.Bins+1 {
		t.Fatal(h.Bins)
	}
	return h
}

// P13.1: targets that are just a class, and just none.
func TestClassTargets(t *testing.T) {
	for _, classes := range []int{2, 3, 255, 256} {
		n := int64(classes)
		wrong := []int64{-1, n, n + 1, 2 * n, -n, top, top - 1, bottom, bottom + 1, 1 << 32, -1 << 32}
		s := one(api.Classes, append([]int64{0, n - 1}, wrong...), slices.Repeat([]int{5}, len(wrong)+2))
		s.Config.Classes = classes
		want := zeros(s)
		want.Counts[classes], want.Counts[2*classes-1] = 10, 5
		is(t, s, 0, []int{0, 1, 0}, want, api.OK)
		for i := range wrong {
			isNone(t, s, 0, []int{i + 2}, api.ErrRange)
			isNone(t, s, 0, []int{1, i + 2, 0}, api.ErrRange)
			s.Weights[i+2] = 0
			isNone(t, s, 0, []int{i + 2}, api.ErrRange) // whatever the weight
		}
	}
}

// known is one row's target and weight, and what comes of it.
type known struct {
	target int64
	weight int
	want   api.Moment // of the kind Classes only the Count matters
	err    api.Errno
}

// P13.1: of both kinds weights, and of the kind Means targets and their products, that just stay within 64 bits, and that go beyond.
func TestOneRow(t *testing.T) {
	for _, x := range []known{
		{1, 0, api.Moment{}, api.OK}, {1, 1, api.Moment{Count: 1, Sum: 1, Square: 1}, api.OK}, {1, top, api.Moment{Count: top, Sum: top, Square: top}, api.OK}, {0, top, api.Moment{Count: top}, api.OK},
		{1, -1, api.Moment{}, api.ErrArg}, {0, -1, api.Moment{}, api.ErrArg}, {1, bottom, api.Moment{}, api.ErrArg}, {0, bottom + 1, api.Moment{}, api.ErrArg},
	} {
		s := one(api.Classes, []int64{x.target}, []int{x.weight})
		want := zeros(s)
		want.Counts[3+x.target] = x.want.Count
		moment := moments(0, 0, 0, x.want.Count, x.want.Sum, x.want.Square, 0, 0, 0)
		if x.err != api.OK {
			want, moment = api.Hist{}, api.Hist{}
		}
		is(t, s, 0, []int{0}, want, x.err)
		is(t, one(api.Means, []int64{x.target}, []int{x.weight}), 0, []int{0}, moment, x.err)
	}
	for _, x := range []known{
		{-1, top, api.Moment{Count: top, Sum: -top, Square: top}, api.OK}, {top, 0, api.Moment{}, api.OK}, {bottom, 0, api.Moment{}, api.OK},
		{3037000499, 1, api.Moment{Count: 1, Sum: 3037000499, Square: 9223372030926249001}, api.OK}, {-3037000499, 1, api.Moment{Count: 1, Sum: -3037000499, Square: 9223372030926249001}, api.OK},
		{-2, 1<<61 - 1, api.Moment{Count: 1<<61 - 1, Sum: 2 - 1<<62, Square: 1<<63 - 4}, api.OK}, {2, 1<<61 - 1, api.Moment{Count: 1<<61 - 1, Sum: 1<<62 - 2, Square: 1<<63 - 4}, api.OK},
		{3037000500, 1, api.Moment{}, api.ErrOver}, {-3037000500, 1, api.Moment{}, api.ErrOver}, {2, 1 << 61, api.Moment{}, api.ErrOver}, {-2, 1 << 61, api.Moment{}, api.ErrOver},
		{2, 1 << 62, api.Moment{}, api.ErrOver}, {1 << 32, 1 << 32, api.Moment{}, api.ErrOver}, {-1 << 32, 1 << 32, api.Moment{}, api.ErrOver}, {2, top, api.Moment{}, api.ErrOver}, {-2, top, api.Moment{}, api.ErrOver},
		{top, 1, api.Moment{}, api.ErrOver}, {bottom, 1, api.Moment{}, api.ErrOver}, {top, top, api.Moment{}, api.ErrOver}, {bottom, top, api.Moment{}, api.ErrOver},
		{top, -1, api.Moment{}, api.ErrArg}, {bottom, bottom, api.Moment{}, api.ErrArg},
	} {
		want := moments(0, 0, 0, x.want.Count, x.want.Sum, x.want.Square, 0, 0, 0)
		if x.err != api.OK {
			want = api.Hist{}
		}
		is(t, one(api.Means, []int64{x.target}, []int{x.weight}), 0, []int{0}, want, x.err)
	}
}

// P13.1: sums of several rows, or of one several times, that just stay within 64 bits, and such as go beyond, in one part, and when parts are merged that don't.
func TestSums(t *testing.T) {
	for i, x := range []struct {
		kind    int
		targets []int64
		weights []int
		rows    []int
		want    api.Errno
	}{
		{api.Classes, []int64{0, 0}, []int{top - 1, 1}, []int{0, 1}, api.OK},
		{api.Classes, []int64{0, 0}, []int{top, 1}, []int{0, 1}, api.ErrOver},
		{api.Classes, []int64{0, 0}, []int{1, top}, []int{0, 1}, api.ErrOver},
		{api.Classes, []int64{2, 0}, []int{top, top}, []int{0, 1}, api.OK}, // unlike classes
		{api.Classes, []int64{2}, []int{1 << 62}, []int{0, 0}, api.ErrOver},
		{api.Classes, []int64{2}, []int{1<<62 - 1}, []int{0, 0}, api.OK},
		{api.Classes, []int64{2, 2}, []int{1 << 62, 1<<62 - 1}, []int{0, 1}, api.OK},
		{api.Means, []int64{0, 0}, []int{top - 1, 1}, []int{0, 1}, api.OK},  // a Count alone
		{api.Means, []int64{0, 0}, []int{top, 1}, []int{0, 1}, api.ErrOver}, // it alone
		{api.Means, []int64{0, 5}, []int{top, 1}, []int{0, 1}, api.ErrOver}, // it alone
		{api.Means, []int64{0, 1}, []int{top, 0}, []int{0, 1}, api.OK},      // nothing more
		{api.Means, []int64{1, 1}, []int{top - 1, 1}, []int{0, 1}, api.OK},  // a Sum above
		{api.Means, []int64{1, 1}, []int{top - 1, 2}, []int{0, 1}, api.ErrOver},
		{api.Means, []int64{-1, -1}, []int{top - 1, 1}, []int{0, 1}, api.OK}, // a Sum below
		{api.Means, []int64{-1, -1}, []int{top - 1, 3}, []int{0, 1}, api.ErrOver},
		{api.Means, []int64{3037000499, 76996}, []int{1, 1}, []int{0, 1}, api.OK}, // a Square
		{api.Means, []int64{3037000499, 76997}, []int{1, 1}, []int{0, 1}, api.ErrOver},
		{api.Means, []int64{-3037000499, 76997}, []int{1, 1}, []int{1, 0}, api.ErrOver},
		{api.Means, []int64{3037000499, -3037000499}, []int{1, 1}, []int{0, 1}, api.ErrOver}, // though the Sum would be 0
	} {
		s := one(x.kind, x.targets, x.weights)
		want, e := told(s, 0, x.rows)
		if e != x.want {
			t.Fatalf("row %d: %v", i, e)
		}
		is(t, s, 0, x.rows, want, e)
		partsAre(t, s, 0, x.rows, 2, want, e)  // one row a part
		partsAre(t, s, 0, x.rows, 64, want, e) // and many without one
		for range x.rows {
			x.targets, x.weights = append(x.targets, 0), append(x.weights, 0)
		}
		s = one(x.kind, x.targets, x.weights) // the same, the parts ahead and behind being of other rows
		n := len(x.rows)
		rows := slices.Concat([]int{len(x.targets) - 1}, x.rows, []int{len(x.targets) - n})
		want, e = told(s, 0, rows)
		if e != x.want {
			t.Fatalf("row %d: %v", i, e)
		}
		is(t, s, 0, rows, want, e)
	}
}

// faulty is a sample of each kind, whose rows 0 and 1 can be merged with all but row 2, row 2 goes beyond with these, 3 has a wrong weight, 4 a wrong bin, 5 (of the kind Classes) a wrong class or (of the kind Means) goes beyond by itself.
func faulty(kind int) api.Sample {
	s := one(kind, []int64{1, 1, 1, 1, 1, top}, []int{1, 2, top, -1, 1, 1})
	s.Matrix.Cells[4] = 3
	return s
}

// P13.1: which error comes first, at one row: what isn't there ahead of the weight, that ahead of what goes beyond.
func TestFirstOfOneRow(t *testing.T) {
	for _, kind := range []int{api.Classes, api.Means} {
		for _, x := range []struct {
			bin    uint16
			target int64
			weight int
			want   [2]api.Errno // by kind
		}{
			{3, 0, -1, [2]api.Errno{api.ErrRange, api.ErrRange}},
			{3, top, -1, [2]api.Errno{api.ErrRange, api.ErrRange}},
			{3, top, top, [2]api.Errno{api.ErrRange, api.ErrRange}},
			{3, -1, bottom, [2]api.Errno{api.ErrRange, api.ErrRange}},
			{2, top, -1, [2]api.Errno{api.ErrRange, api.ErrArg}},
			{2, -1, bottom, [2]api.Errno{api.ErrRange, api.ErrArg}},
			{2, top, top, [2]api.Errno{api.ErrRange, api.ErrOver}},
			{2, 2, -1, [2]api.Errno{api.ErrArg, api.ErrArg}},
			{2, 3, 1 << 62, [2]api.Errno{api.ErrRange, api.ErrOver}},
		} {
			s := one(kind, []int64{x.target, 1}, []int{x.weight, 1})
			s.Matrix.Cells[0] = x.bin
			isNone(t, s, 0, []int{0}, x.want[kind])
			isNone(t, s, 0, []int{1, 0, 1}, x.want[kind])
			isNone(t, s, 0, []int{1, 1, 1, 0}, x.want[kind])
		}
	}
}

// P13.1: which error is told of several rows, and of several parts: that of an earlier part, also of its later row, ahead of that of a later part, and both ahead of that of merging.
func TestFirstOfParts(t *testing.T) {
	for _, x := range []struct {
		rows  []int
		parts int
		want  [2]api.Errno // by kind
	}{
		{[]int{0, 3, 4, 5}, 1, [2]api.Errno{api.ErrArg, api.ErrArg}}, {[]int{0, 4, 3, 5}, 1, [2]api.Errno{api.ErrRange, api.ErrRange}},
		{[]int{5, 3, 4, 0}, 1, [2]api.Errno{api.ErrRange, api.ErrOver}}, {[]int{6, 3, 4, 0}, 1, [2]api.Errno{api.ErrRange, api.ErrRange}}, {[]int{3, 6, 4, 0}, 1, [2]api.Errno{api.ErrArg, api.ErrArg}},
		// a later row of an earlier part, and an earlier row of a later part
		{[]int{0, 3, 4, 0}, 2, [2]api.Errno{api.ErrArg, api.ErrArg}}, {[]int{0, 4, 3, 0}, 2, [2]api.Errno{api.ErrRange, api.ErrRange}}, {[]int{0, 1, 3, 4, 1, 0}, 2, [2]api.Errno{api.ErrArg, api.ErrArg}},
		{[]int{0, 1, 6, 3, 1, 0}, 2, [2]api.Errno{api.ErrRange, api.ErrRange}}, {[]int{0, 1, 2, 3, 1, 0}, 2, [2]api.Errno{api.ErrOver, api.ErrOver}}, {[]int{0, 1, 0, 1, 3, 5}, 3, [2]api.Errno{api.ErrArg, api.ErrArg}},
		// what goes beyond within a part, and what only does when parts are merged
		{[]int{0, 2, 3}, 1, [2]api.Errno{api.ErrOver, api.ErrOver}}, {[]int{0, 2, 3}, 2, [2]api.Errno{api.ErrOver, api.ErrOver}}, {[]int{0, 2, 3}, 3, [2]api.Errno{api.ErrArg, api.ErrArg}},
		{[]int{0, 2, 4}, 1, [2]api.Errno{api.ErrOver, api.ErrOver}}, {[]int{0, 2, 4}, 3, [2]api.Errno{api.ErrRange, api.ErrRange}}, {[]int{0, 2, -1}, 3, [2]api.Errno{api.ErrRange, api.ErrRange}}, {[]int{0, 2, 6}, 64, [2]api.Errno{api.ErrRange, api.ErrRange}},
		{[]int{0, 2}, 2, [2]api.Errno{api.ErrOver, api.ErrOver}}, {[]int{0, 2}, 64, [2]api.Errno{api.ErrOver, api.ErrOver}}, {[]int{2, 0}, 63, [2]api.Errno{api.ErrOver, api.ErrOver}}, {[]int{2, 0, 1}, 3, [2]api.Errno{api.ErrOver, api.ErrOver}},
		{[]int{2, 1, 0, 3}, 4, [2]api.Errno{api.ErrArg, api.ErrArg}}, {[]int{2, 1, 0, 3}, 3, [2]api.Errno{api.ErrOver, api.ErrOver}}, {[]int{2, 2, 2, 2, 3, 6}, 6, [2]api.Errno{api.ErrArg, api.ErrArg}},
		{[]int{0, 1, 1}, 2, [2]api.Errno{}}, {[]int{2}, 64, [2]api.Errno{}},
	} {
		for kind, want := range x.want {
			s := faulty(kind)
			h, e := toldParts(s, 0, x.rows, x.parts)
			if e != want {
				t.Fatalf("%+v, kind %d: %v", x, kind, e)
			}
			partsAre(t, s, 0, x.rows, x.parts, h, want)
		}
	}
}

// P13.1: all lists of up to four rows, right ones and wrong ones, in one part and in several.
func TestAllRows(t *testing.T) {
	for _, kind := range []int{api.Classes, api.Means} {
		s := faulty(kind)
		lists := [][]int{{}}
		for from := 0; from < len(lists); from++ {
			rows := lists[from]
			h, e := told(s, 0, rows)
			histIs(t, s, 0, rows, h, e)
			for parts := 1; parts <= 5; parts++ {
				h, e := toldParts(s, 0, rows, parts)
				partsAre(t, s, 0, rows, parts, h, e)
			}
			for row := -1; row <= 6 && len(rows) < 4; row++ {
				lists = append(lists, append(slices.Clone(rows), row))
			}
		}
	}
}

// anySample is one that is right, of few rows and columns; about one in so many of its numbers may be wrong, or great.
func anySample(r *rand.Rand, often int) api.Sample {
	s := both()[r.Intn(2)]
	rows, cols := r.Intn(12), 1+r.Intn(3)
	s.Config.Bins = 2 + r.Intn(4)
	s.Matrix = api.Matrix{Rows: rows, Cols: cols}
	for range rows * cols {
		s.Matrix.Cells = append(s.Matrix.Cells, uint16(r.Intn(s.Config.Bins+1+r.Intn(often)/(often-1))))
	}
	s.Targets, s.Weights = nil, nil
	for range rows {
		target, weight := int64(r.Intn(3)), r.Intn(5)
		if s.Config.Kind == api.Means {
			target = int64(r.Intn(200) - 100)
		}
		if r.Intn(often) == 0 {
			target = []int64{-1, 3, top, bottom, 3037000499, 1 << 32}[r.Intn(6)]
		}
		if r.Intn(often) == 0 {
			weight = []int{-1, top, bottom, 1 << 62, top - 3, 1 << 32}[r.Intn(6)]
		}
		s.Targets, s.Weights = append(s.Targets, target), append(s.Weights, weight)
	}
	return s
}

// P13.1: many samples, of numbers right and wrong, great and small, held against what great numbers tell.
func TestTold(t *testing.T) {
	r := rand.New(rand.NewSource(13))
	for round := range 6000 {
		often := []int{4, 15, 60, 1000}[round%4]
		s := anySample(r, often)
		rows := []int{}
		for range r.Intn(2 * (s.Matrix.Rows + 1)) {
			rows = append(rows, r.Intn(max(s.Matrix.Rows, 1)))
			if r.Intn(often) == 0 {
				rows[len(rows)-1] = r.Intn(3*s.Matrix.Rows+3) - s.Matrix.Rows - 1
			}
		}
		isTold(t, s, r.Intn(s.Matrix.Cols), rows)
	}
}

// within is a sample of so many rows, whose weights are MaxRows together at most for all of its rows, in any order, which are answered too, and its targets within the limits.
func within(r *rand.Rand, kind, rows, bins, classes int) (api.Sample, []int) {
	s := both()[kind]
	s.Config.Bins = bins
	if kind == api.Classes {
		s.Config.Classes = classes
	}
	s.Matrix = api.Matrix{Rows: rows, Cols: 2}
	for range 2 * rows {
		s.Matrix.Cells = append(s.Matrix.Cells, uint16(r.Intn(bins+1)))
	}
	s.Targets, s.Weights = make([]int64, rows), make([]int, rows)
	list := []int{}
	for row := range rows {
		s.Targets[row] = int64(r.Intn(2*api.MaxTarget+1) - api.MaxTarget)
		if kind == api.Classes {
			s.Targets[row] = int64(r.Intn(classes))
		}
		often := r.Intn(4)
		s.Weights[row] = r.Intn(api.MaxRows/(3*rows) + 1)
		list = append(list, slices.Repeat([]int{row}, often)...)
	}
	r.Shuffle(len(list), func(i, j int) { list[i], list[j] = list[j], list[i] })
	return s, list
}

// allParts holds that in each number of parts there is just the histogram that Hist answers, which is told.
func allParts(t *testing.T, s api.Sample, col int, rows []int) {
	t.Helper()
	want, e := told(s, col, rows)
	if e != api.OK {
		t.Fatal(e)
	}
	histIs(t, s, col, rows, want, api.OK)
	for parts := 1; parts <= 64; parts++ {
		partsAre(t, s, col, rows, parts, want, api.OK)
	}
}

// P13.2: within the limits there is the same histogram, in however many parts.
func TestWhateverTheParts(t *testing.T) {
	r := rand.New(rand.NewSource(132))
	for round := range 60 {
		rows := []int{1, 2, 3, 5, 20, 63, 64, 65, 200, 500}[round%10]
		s, list := within(r, round%2, rows, []int{2, 5, 40}[round%3], []int{2, 7}[round/2%2])
		allParts(t, s, round/3%2, list)
		allParts(t, s, 0, numbers(rows))
	}
	s, list := within(r, api.Classes, 100, 256, 256)
	allParts(t, s, 0, list)
	s, list = within(r, api.Means, 3000, 256, 0)
	allParts(t, s, 1, list)
}

// P13.2: as much as the limits let come together.
func TestAtTheLimits(t *testing.T) {
	for _, target := range []int64{api.MaxTarget, -api.MaxTarget} {
		all := moments(0, 0, 0, 1<<20, target<<20, 1<<60, 0, 0, 0)
		for _, x := range []struct {
			weight int
			rows   []int
		}{{1 << 20, []int{1}}, {1 << 19, []int{0, 1}}, {1 << 14, slices.Repeat([]int{1}, 64)}, {1 << 13, slices.Repeat([]int{0, 1}, 64)}} {
			s := one(api.Means, []int64{target, target}, []int{x.weight, x.weight})
			histIs(t, s, 0, x.rows, all, api.OK)
			allParts(t, s, 0, x.rows)
			s = one(api.Classes, []int64{1, 1}, s.Weights)
			histIs(t, s, 0, x.rows, counts(3, 0, 0, 0, 0, 1<<20, 0, 0, 0, 0), api.OK)
			allParts(t, s, 0, x.rows)
		}
	}
}

// P13.2: as many rows as there may be.
func TestManyRows(t *testing.T) {
	n := api.MaxRows
	targets, weights := slices.Repeat([]int64{-api.MaxTarget}, n), slices.Repeat([]int{1}, n)
	s := one(api.Means, targets, weights)
	rows := numbers(n)
	all := moments(0, 0, 0, 1<<20, -1<<40, 1<<60, 0, 0, 0)
	for _, parts := range []int{1, 3, 64} {
		if h, e := Parts(s, 0, rows, parts); !same(h, all) || e != api.OK {
			t.Fatalf("in %d parts: %v %v", parts, h, e)
		}
	}
}
