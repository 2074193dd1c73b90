package bins

import (
	"math"
	"math/rand"
	"slices"
	"sort"
	"testing"

	"hornbeam/api"
)

const most = api.MaxCells

var (
	inf    = math.Inf(1)
	nan    = math.NaN()
	minus0 = math.Copysign(0, -1)
)

// extremes are numbers at which counting goes wrong first.
var extremes = []int{-1, -2, math.MinInt, math.MinInt + 1, math.MaxInt, math.MaxInt - 1, 1 << 32, 1 << 31, -1 << 31, -1 << 32}

// shape is how many rows and columns are told, how many values or cells there are, and whether they fit.
type shape struct {
	rows, cols, count int
	fit               bool
}

// small are those that fit and are soon gone through, many those that are as great as may be.
var (
	small = []shape{
		{0, 0, 0, true}, {0, 1, 0, true}, {0, 7, 0, true}, {1, 0, 0, true}, {7, 0, 0, true}, {most, 0, 0, true}, {most - 1, 0, 0, true},
		{1, 1, 1, true}, {1, 5, 5, true}, {5, 1, 5, true}, {2, 3, 6, true}, {3, 2, 6, true}, {4, 4, 16, true}, {40, 30, 1200, true},
	}
	many = []shape{
		{0, most, 0, true}, {1, most, most, true}, {most, 1, most, true}, {1 << 13, 1 << 12, 2 * most, true},
	}
)

// wrongEnds are shapes of which a number is no number of rows or columns, or whose product is as many only when it goes round.
var wrongEnds = []shape{
	{-1, 0, 0, false}, {0, -1, 0, false}, {-1, -1, 1, false}, {-2, -3, 6, false}, {-1, 1, 1, false}, {1, -1, 1, false}, {-3, 2, 6, false}, {3, -2, 6, false},
	{most + 1, 0, 0, false}, {0, most + 1, 0, false}, {most + 1, 1, most + 1, false}, {1, most + 1, most + 1, false}, {2 * most, 0, 0, false}, {0, 2 * most, 0, false},
	{most + 1, most + 1, 0, false}, {most, most, 0, false}, {most, 1 << 8, 0, false}, {1 << 16, 1 << 16, 0, false}, {1<<16 + 1, 1 << 16, 1 << 16, false},
	{1 << 32, 1 << 32, 0, false}, {1 << 33, 1 << 31, 0, false}, {1 << 31, 1 << 33, 0, false}, {4, 1<<62 + 1, 4, false}, {1<<62 + 1, 4, 4, false},
	{2, math.MinInt + 3, 6, false}, {math.MinInt + 3, 2, 6, false}, {math.MinInt, 2, 0, false}, {2, math.MinInt, 0, false}, {math.MinInt, math.MinInt, 0, false},
	{math.MaxInt, math.MaxInt, 1, false}, {math.MinInt, 0, 0, false}, {0, math.MinInt, 0, false}, {math.MaxInt, 0, 0, false}, {0, math.MaxInt, 0, false},
	{math.MinInt + 1, 0, 0, false}, {0, math.MaxInt - 1, 0, false}, {1 << 32, 0, 0, false}, {0, 1 << 32, 0, false}, {1 << 32, 1, 0, false},
}

// shapes are all of these, and, of those that fit, such as have one more and one fewer.
func shapes() []shape {
	l := slices.Clone(wrongEnds)
	for _, s := range slices.Concat(small, many) {
		l = append(l, s, shape{s.rows, s.cols, s.count + 1, false})
		if s.count > 0 {
			l = append(l, shape{s.rows, s.cols, s.count - 1, false})
		}
	}
	return l
}

// asMany is a number, if there may be so many of a thing; else 0.
func asMany(n int) int {
	if n < 0 || n > 2*most {
		return 0
	}
	return n
}

// cols is a dataset of columns, for so many bins.
func cols(bins int, columns ...[]float64) api.Dataset {
	d := api.Dataset{Config: api.Config{Bins: bins}, Cols: len(columns), Values: slices.Concat(columns...)}
	if len(columns) > 0 {
		d.Rows = len(columns[0])
	}
	return d
}

func matrix(rows, cols int, cells ...uint16) api.Matrix {
	return api.Matrix{Rows: rows, Cols: cols, Cells: cells}
}

func same(a, b api.Matrix) bool {
	return a.Rows == b.Rows && a.Cols == b.Cols && slices.Equal(a.Cells, b.Cells)
}

// bitsOf are the bits of values, since no NaN is the same as another.
func bitsOf(l []float64) []uint64 {
	bits := []uint64{}
	for _, f := range l {
		bits = append(bits, math.Float64bits(f))
	}
	return bits
}

// allBits are the bits of lists of values, list by list.
func allBits(ls [][]float64) [][]uint64 {
	all := [][]uint64{}
	for _, l := range ls {
		all = append(all, bitsOf(l))
	}
	return all
}

func equal[T comparable](a, b [][]T) bool { return slices.EqualFunc(a, b, slices.Equal[[]T]) }

// roomy is the list, with room behind it that is written on, into which who appends would write.
func roomy[T any](l []T, mark T) []T { return append(slices.Clone(l), mark, mark)[:len(l)] }

// whole is a list that is roomy, with what stands behind it.
func whole[T any](l []T) []T { return l[:len(l)+2] }

// spoil writes into a list, and into the room behind it.
func spoil[T any](l []T, mark T) {
	l = l[:cap(l)]
	for i := range l {
		l[i] = mark
	}
}

// roomyLists are the lists, each roomy.
func roomyLists(ls [][]float64) [][]float64 {
	out := [][]float64{}
	for _, l := range ls {
		out = append(out, roomy(l, 424242))
	}
	return roomy(out, []float64{424242})
}

// wholeBits are the bits of roomy lists, with what stands behind each of them, and behind all.
func wholeBits(ls [][]float64) [][]uint64 {
	all := allBits(whole(ls)[len(ls):])
	for _, l := range ls {
		all = append(all, bitsOf(whole(l)))
	}
	return all
}

// edgesOf holds Edges' answer bit by bit, and that it shares no memory with the dataset, nor with another answer, nor a list of it with another one.
func edgesOf(t *testing.T, d api.Dataset, want [][]float64) {
	t.Helper()
	d.Values = roomy(d.Values, 424242)
	was := bitsOf(whole(d.Values))
	out, again := Edges(d), Edges(d)
	if !equal(allBits(out), allBits(want)) {
		t.Fatalf("the edges of %+v: %v, not %v", d, out, want)
	}
	for i := range out { // each list is still as it was when all those ahead have been written into
		if !slices.Equal(bitsOf(out[i]), bitsOf(want[i])) {
			t.Fatalf("the edges of %+v share memory: %v", d, out)
		}
		spoil(out[i], -12345)
	}
	spoil(out, nil)
	if !slices.Equal(bitsOf(whole(d.Values)), was) {
		t.Fatalf("Edges wrote into the values, or handed them out: %v", d)
	}
	spoil(d.Values, 54321)
	if !equal(allBits(again), allBits(want)) {
		t.Fatalf("what was answered of %+v became %v", d, again)
	}
}

// of holds Of's answer, and that it shares no memory with another one, and that what was handed in stays as it was.
func of(t *testing.T, d api.Dataset, cuts [][]float64, want api.Matrix, wantErr api.Errno) {
	t.Helper()
	d.Values, cuts = roomy(d.Values, 424242), roomyLists(cuts)
	values, lists := bitsOf(whole(d.Values)), wholeBits(cuts)
	m, e := Of(d, cuts)
	again, _ := Of(d, cuts)
	if !same(m, want) || e != wantErr {
		t.Fatalf("%+v by %v: %v %v, not %v %v", d, cuts, m, e, want, wantErr)
	}
	spoil(m.Cells, 12345)
	if !slices.Equal(bitsOf(whole(d.Values)), values) || !equal(wholeBits(cuts), lists) {
		t.Fatalf("Of wrote into %+v or %v", d, cuts)
	}
	spoil(d.Values, 54321)
	for _, l := range cuts {
		spoil(l, 54321)
	}
	spoil(cuts, nil)
	if !same(again, want) {
		t.Fatalf("what was answered became %v, not %v", again, want)
	}
}

// cellIs looks what a matrix has of a row in a column.
func cellIs(t *testing.T, m api.Matrix, row, col, want int, wantOK bool) {
	t.Helper()
	if bin, ok := Cell(m, row, col); bin != want || ok != wantOK {
		t.Fatalf("row %d, column %d of %d rows and %d columns: %d %v, not %d %v", row, col, m.Rows, m.Cols, bin, ok, want, wantOK)
	}
}

// rowIs looks what a matrix has of a row, and that it shares no memory with another answer.
func rowIs(t *testing.T, m api.Matrix, row int, want []int) {
	t.Helper()
	out, again := Row(m, row), Row(m, row)
	if !slices.Equal(out, want) {
		t.Fatalf("row %d of %d rows and %d columns: %v, not %v", row, m.Rows, m.Cols, out, want)
	}
	spoil(out, -12345)
	if !slices.Equal(again, want) {
		t.Fatalf("row %d: what was answered became %v", row, again)
	}
}

// turn holds Turn's answer, and that it shares no memory with what is handed in, nor with another answer.
func turn(t *testing.T, m api.Matrix, col int, p []int, want api.Matrix, wantErr api.Errno) {
	t.Helper()
	m.Cells, p = roomy(m.Cells, 4242), roomy(p, 424242)
	cells, numbers := slices.Clone(whole(m.Cells)), slices.Clone(whole(p))
	out, e := Turn(m, col, p)
	again, _ := Turn(m, col, p)
	if !same(out, want) || e != wantErr {
		t.Fatalf("%v, column %d, by %v: %v %v, not %v %v", m, col, p, out, e, want, wantErr)
	}
	spoil(out.Cells, 12345)
	if !slices.Equal(whole(m.Cells), cells) || !slices.Equal(whole(p), numbers) {
		t.Fatalf("Turn wrote into %v or %v, or handed them out", m, p)
	}
	spoil(m.Cells, 54321)
	spoil(p, 54321)
	if !same(again, want) {
		t.Fatalf("what was answered became %v, not %v", again, want)
	}
}

// numbers are 0 to ahead of n.
func numbers(n int) []int {
	p := make([]int, n)
	for i := range p {
		p[i] = i
	}
	return p
}

// backward are the numbers ahead of n down to 0.
func backward(n int) []int {
	p := numbers(n)
	slices.Reverse(p)
	return p
}

// with is the list with another number at a place.
func with(p []int, place, n int) []int {
	p = slices.Clone(p)
	p[place] = n
	return p
}

// eachPerm goes through all orders of 0 to ahead of n.
func eachPerm(n int, do func(p []int)) {
	var from func(p []int)
	from = func(p []int) {
		if len(p) == n {
			do(slices.Clone(p))
			return
		}
		for x := range n {
			if !slices.Contains(p, x) {
				from(append(p, x))
			}
		}
	}
	from(make([]int, 0, n))
}

// anyMatrix has any bins, often the same ones.
func anyMatrix(r *rand.Rand, rows, cols int) api.Matrix {
	m := api.Matrix{Rows: rows, Cols: cols}
	few := []uint16{0, 1, 2, 3, 255, 256, 32767, 32768, 65534, 65535}
	for range rows * cols {
		if r.Intn(2) == 0 {
			m.Cells = append(m.Cells, few[r.Intn(len(few))])
		} else {
			m.Cells = append(m.Cells, uint16(r.Intn(65536)))
		}
	}
	return m
}

// anyValue is often one of a few, among them what is missing, infinite, 0 and -0.
func anyValue(r *rand.Rand) float64 {
	few := []float64{nan, math.Float64frombits(0xfff0000000000123), inf, -inf, 0, minus0, math.MaxFloat64, math.SmallestNonzeroFloat64}
	if r.Intn(4) == 0 {
		return few[r.Intn(len(few))]
	}
	return float64(r.Intn(41) - 20)
}

func anyValues(r *rand.Rand, n int) []float64 {
	l := []float64{}
	for range n {
		l = append(l, anyValue(r))
	}
	return l
}

// edgesBy are the edges of a column, told straight by the words of chapter 10.
func edgesBy(column []float64, bins int) []float64 {
	there, out := []float64{}, []float64{}
	for _, f := range column {
		if f == f {
			there = append(there, f+0) // 0, if it is -0
		}
	}
	sort.Float64s(there)
	for q := 1; q < bins && len(there) > 0; q++ {
		if f := there[q*len(there)/bins]; f > there[0] && (len(out) == 0 || f > out[len(out)-1]) {
			out = append(out, f)
		}
	}
	return out
}

// binBy is a value's bin, told straight by the words of chapter 10: a missing edge stands ahead of all.
func binBy(cuts []float64, f float64) uint16 {
	if f != f {
		return 0
	}
	bin := 1
	for _, edge := range cuts {
		if edge != edge || edge <= f {
			bin++
		}
	}
	return uint16(min(bin, 65535))
}

// P11.1: the chapter's example.
func TestExample(t *testing.T) {
	d := cols(2, []float64{1, 3})
	edgesOf(t, d, [][]float64{{3}})
	m := matrix(2, 1, 1, 2)
	of(t, d, [][]float64{{3}}, m, api.OK)
	turn(t, m, 0, []int{1, 0}, matrix(2, 1, 2, 1), api.OK)
}

// P11.1: Edges and Of of all shapes: those whose numbers don't fit have neither edges nor a matrix.
func TestShapesOfDatasets(t *testing.T) {
	values := make([]float64, 2*most+1) // as many as the greatest shape has: the same for all, since nobody writes into them
	for _, s := range shapes() {
		d := api.Dataset{Config: api.Config{Bins: 2}, Rows: s.rows, Cols: s.cols, Values: values[:s.count]}
		wantRows, wantCols, wantCells, wantErr := 0, 0, 0, api.ErrShape
		if s.fit {
			wantRows, wantCols, wantCells, wantErr = s.rows, s.cols, s.count, api.OK
		}
		cuts := Edges(d)
		if len(cuts) != wantCols || slices.ContainsFunc(cuts, func(l []float64) bool { return len(l) != 0 }) {
			t.Errorf("%+v: edges of %d columns", s, len(cuts))
		}
		m, e := Of(d, make([][]float64, asMany(s.cols)))
		if m.Rows != wantRows || m.Cols != wantCols || len(m.Cells) != wantCells || e != wantErr {
			t.Errorf("%+v: a matrix of %d rows and %d columns, %d cells, %v", s, m.Rows, m.Cols, len(m.Cells), e)
		}
		if slices.ContainsFunc(m.Cells, func(bin uint16) bool { return bin != 1 }) {
			t.Errorf("%+v: a bin isn't 1", s)
		}
	}
}

// P11.1: Edges of few and of many columns, with missing values and without.
func TestEdges(t *testing.T) {
	edgesOf(t, api.Dataset{}, nil)
	edgesOf(t, api.Dataset{Config: api.Config{Bins: 2}, Values: []float64{}}, nil)
	edgesOf(t, cols(2, []float64{}, []float64{}), [][]float64{{}, {}})
	edgesOf(t, api.Dataset{Config: api.Config{Bins: 2}, Rows: 3}, nil)
	edgesOf(t, cols(2, []float64{5, 1, 3, 1}), [][]float64{{3}})
	edgesOf(t, cols(3, []float64{5, 1, 3, 1}, []float64{4, 3, 2, 1}), [][]float64{{3}, {2, 3}})
	edgesOf(t, cols(2, []float64{nan, nan}, []float64{1, 2}, []float64{nan, nan}), [][]float64{{}, {2}, {}})
	edgesOf(t, cols(2, []float64{nan, 7, nan}, []float64{2, nan, 1}, []float64{nan, nan, nan}), [][]float64{{}, {2}, {}})
	edgesOf(t, cols(256, []float64{inf, -inf, nan}, []float64{0, minus0, -1}, []float64{-1, 1, minus0}), [][]float64{{inf}, {0}, {0, 1}})
	edgesOf(t, cols(2, []float64{1}, []float64{2}, []float64{3}), [][]float64{{}, {}, {}})
}

// P11.1: Edges for as many bins as the config says, of as many columns as there are; for as many as can't be there are none of any column.
func TestEdgesBins(t *testing.T) {
	column := make([]float64, 600)
	for i := range column {
		column[i] = float64(600 - i)
	}
	for _, bins := range []int{2, 3, 4, 17, 254, 255, 256} {
		want := edgesBy(column, bins)
		if len(want) != bins-1 {
			t.Fatal(bins, len(want))
		}
		edgesOf(t, cols(bins, column, slices.Repeat([]float64{1, 2}, 300)), [][]float64{want, {2}})
	}
	for _, bins := range slices.Concat(extremes, []int{1, 0, 257, 258, 512, 65536}) {
		edgesOf(t, cols(bins, column, column), [][]float64{{}, {}})
		edgesOf(t, cols(bins), nil)
		short := cols(bins, column)
		short.Rows--
		edgesOf(t, short, nil)
	}
}

// P11.1: Edges hang on the shape, the values and the bins alone; so do Of's bins, which don't hang on the bins either.
func TestNothingElse(t *testing.T) {
	d := cols(2, []float64{5, 1, 3, 1})
	for _, c := range []api.Config{{Bins: 2}, {Kind: -1, Classes: -1, Bins: 2, Trees: -1, Depth: -1, Leaf: -1, Pick: -1}, {Kind: 1, Classes: 256, Bins: 2, Trees: 9, Depth: 99, Leaf: 1, Pick: 4}} {
		for _, targets := range [][]int64{nil, {1, 2}, {-5, 0, 0, 1 << 40}, make([]int64, 9)} {
			d.Config, d.Targets = c, targets
			edgesOf(t, d, [][]float64{{3}})
		}
	}
	for _, bins := range slices.Concat(extremes, []int{0, 1, 2, 3, 256, 257}) {
		d.Config.Bins = bins
		of(t, d, [][]float64{{2, 3}}, matrix(4, 1, 3, 1, 3, 1), api.OK)
	}
}

// P11.1: Edges and Of of any datasets, held against the words of chapter 10.
func TestAnyDatasets(t *testing.T) {
	r := rand.New(rand.NewSource(1))
	for _, bins := range []int{2, 3, 4, 5, 16, 100, 255, 256} {
		for range 60 {
			d := api.Dataset{Config: api.Config{Bins: bins}, Rows: r.Intn(50), Cols: r.Intn(6)}
			if r.Intn(8) == 0 {
				d.Rows += 300
			}
			d.Values = anyValues(r, d.Rows*d.Cols)
			found, loose := [][]float64{}, [][]float64{}
			for col := range d.Cols {
				found = append(found, edgesBy(d.Values[col*d.Rows:(col+1)*d.Rows], bins))
				loose = append(loose, anyValues(r, r.Intn(20)))
			}
			edgesOf(t, d, found)
			for _, cuts := range [][][]float64{found, loose} {
				of(t, d, cuts, matrixBy(d, cuts), api.OK)
			}
		}
	}
}

// matrixBy is the matrix of a dataset, cell by cell.
func matrixBy(d api.Dataset, cuts [][]float64) api.Matrix {
	m := api.Matrix{Rows: d.Rows, Cols: d.Cols}
	for at, f := range d.Values {
		m.Cells = append(m.Cells, binBy(cuts[at/d.Rows], f))
	}
	return m
}

// P11.1: Of by edges that could be, each column by its own, and by such as couldn't.
func TestOf(t *testing.T) {
	d := cols(2, []float64{1, 2, nan, -inf}, []float64{3, minus0, inf, 2})
	of(t, d, [][]float64{{}, {}}, matrix(4, 2, 1, 1, 0, 1, 1, 1, 1, 1), api.OK)
	of(t, d, [][]float64{nil, nil}, matrix(4, 2, 1, 1, 0, 1, 1, 1, 1, 1), api.OK)
	of(t, d, [][]float64{{2}, nil}, matrix(4, 2, 1, 2, 0, 1, 1, 1, 1, 1), api.OK)
	of(t, d, [][]float64{nil, {0, 2, 3}}, matrix(4, 2, 1, 1, 0, 1, 4, 2, 4, 3), api.OK)
	of(t, d, [][]float64{{1, 2}, {2}}, matrix(4, 2, 2, 3, 0, 1, 2, 1, 2, 2), api.OK)
	of(t, d, [][]float64{{2, 1}, {3, 2, 0}}, matrix(4, 2, 2, 3, 0, 1, 4, 2, 4, 3), api.OK)
	of(t, d, [][]float64{{2, 2}, {2, 0, 2}}, matrix(4, 2, 1, 3, 0, 1, 4, 2, 4, 4), api.OK)
	of(t, d, [][]float64{{nan}, {nan, 2, nan}}, matrix(4, 2, 2, 2, 0, 2, 4, 3, 4, 4), api.OK)
	of(t, d, [][]float64{{inf, -inf}, {minus0}}, matrix(4, 2, 2, 2, 0, 2, 2, 2, 2, 2), api.OK)
	of(t, cols(2), nil, api.Matrix{}, api.OK)
	of(t, api.Dataset{Rows: 5}, [][]float64{}, matrix(5, 0), api.OK)
	of(t, api.Dataset{Cols: 2}, [][]float64{{1}, {2}}, matrix(0, 2), api.OK)
}

// P11.1: Of by rows of edges that are more or fewer than the columns.
func TestOfWrongEdges(t *testing.T) {
	for _, rows := range []int{0, 1, 2, 5} {
		for columns := range 5 {
			d := api.Dataset{Config: api.Config{Bins: 2}, Rows: rows, Cols: columns, Values: make([]float64, rows*columns)}
			for _, lists := range []int{0, columns - 1, columns + 1, columns + 2, 2 * columns, 300} {
				if lists >= 0 && lists != columns {
					of(t, d, slices.Repeat([][]float64{{1, 2}}, lists), api.Matrix{}, api.ErrShape)
				}
			}
			if columns > 0 {
				of(t, d, nil, api.Matrix{}, api.ErrShape)
			}
		}
	}
	for _, n := range slices.Concat(extremes, []int{-3, most + 1, 1 << 40}) {
		for _, lists := range []int{0, 1, 3} {
			of(t, api.Dataset{Rows: 1, Cols: n, Values: make([]float64, 3)}, make([][]float64, lists), api.Matrix{}, api.ErrShape)
			of(t, api.Dataset{Rows: 0, Cols: n}, make([][]float64, lists), api.Matrix{}, api.ErrShape)
		}
	}
}

// P11.1: Of by so many edges that the bin is 65534, 65535, 65536 and more: of those above 65535 that.
func TestOfManyEdges(t *testing.T) {
	for _, count := range []int{65532, 65533, 65534, 65535, 65536, 65537, 70000, 131071, 131072, 131073} {
		cuts := make([]float64, count)
		for i := range cuts {
			cuts[i] = float64(i + 1)
		}
		last := float64(count)
		d := cols(2, []float64{last, inf, last - 1, last - 2, 65534, 65533, 0, 1, nan}, []float64{0, 1, 2, 3, 4, 5, 6, 7, 8})
		below := func(bin int) uint16 { return uint16(min(bin, 65535)) }
		n := below(count + 1)
		want := matrix(9, 2, n, n, below(count), below(count-1), below(min(count, 65534)+1), below(min(count, 65533)+1), 1, 2, 0, 1, 1, 1, 1, 1, 1, 1, 1, 1)
		of(t, d, [][]float64{cuts, {9}}, want, api.OK)
		of(t, d, [][]float64{slices.Repeat([]float64{nan}, count), {9}}, matrix(9, 2, n, n, n, n, n, n, n, n, 0, 1, 1, 1, 1, 1, 1, 1, 1, 1), api.OK)
	}
}

// P11.1: Right, Cell, Row and Turn of all shapes: of those that don't fit there is neither a cell nor a row, and nothing to turn.
func TestShapesOfMatrices(t *testing.T) {
	cells := make([]uint16, 2*most+1)
	for i := range cells {
		cells[i] = uint16(i%65521 + 7) // a prime, so that no row of them is like the next
	}
	for _, s := range shapes() {
		m := matrix(s.rows, s.cols, cells[:s.count]...)
		if Right(m) != s.fit {
			t.Errorf("%+v: right: %v", s, !s.fit)
		}
		rows := slices.Concat(extremes, []int{0, s.rows - 1, s.rows, s.rows + 1, s.rows / 2})
		columns := slices.Concat(extremes, []int{0, s.cols - 1, s.cols, s.cols + 1, s.cols / 2})
		for _, row := range rows {
			there := s.fit && row >= 0 && row < s.rows
			for _, col := range columns {
				want := 0
				if there && col >= 0 && col < s.cols {
					want = (col*s.rows+row)%65521 + 7
				}
				cellIs(t, m, row, col, want, want > 0)
			}
			if got := Row(m, row); !there && len(got) > 0 || there && len(got) != s.cols {
				t.Errorf("%+v: row %d has %d bins", s, row, len(got))
			}
		}
		turnShape(t, m, s.fit, columns)
	}
}

// turnShape turns each of these columns round.
func turnShape(t *testing.T, m api.Matrix, fit bool, columns []int) {
	t.Helper()
	p := backward(asMany(m.Rows))
	for i, col := range columns {
		if slices.Contains(columns[:i], col) {
			continue
		}
		out, e := Turn(m, col, p)
		if !fit || col < 0 || col >= m.Cols {
			if !same(out, api.Matrix{}) || e != api.ErrShape {
				t.Fatalf("%d rows, %d columns, %d cells, column %d: turned to %d cells, %v", m.Rows, m.Cols, len(m.Cells), col, len(out.Cells), e)
			}
			continue
		}
		want := slices.Clone(m.Cells)
		slices.Reverse(want[col*m.Rows : (col+1)*m.Rows])
		if !same(out, matrix(m.Rows, m.Cols, want...)) || e != api.OK {
			t.Fatalf("%d rows, %d columns, column %d: not turned round, %v", m.Rows, m.Cols, col, e)
		}
	}
}

// P11.1: Cell and Row of each row and column there is, and around them; the matrix stays as it is.
func TestCellAndRow(t *testing.T) {
	r := rand.New(rand.NewSource(2))
	for _, s := range small {
		if s.rows > 100 {
			continue
		}
		m := anyMatrix(r, s.rows, s.cols)
		m.Cells = roomy(m.Cells, 4242)
		was := slices.Clone(whole(m.Cells))
		for row := -1; row <= s.rows; row++ {
			line := []int{}
			for col := -1; col <= s.cols; col++ {
				if row < 0 || row == s.rows || col < 0 || col == s.cols {
					cellIs(t, m, row, col, 0, false)
					continue
				}
				bin := int(m.Cells[col*s.rows+row])
				cellIs(t, m, row, col, bin, true)
				line = append(line, bin)
			}
			rowIs(t, m, row, line)
		}
		if !slices.Equal(whole(m.Cells), was) {
			t.Errorf("%+v: the cells became %v", s, whole(m.Cells))
		}
	}
}

// P11.1: Cell tells all bins there may be.
func TestAllBins(t *testing.T) {
	for bin := range 65536 {
		m := matrix(1, 2, uint16(bin), uint16(65535-bin))
		cellIs(t, m, 0, 0, bin, true)
		rowIs(t, m, 0, []int{bin, 65535 - bin})
	}
}

// turned is the matrix with a column turned, told from where each cell comes.
func turned(m api.Matrix, col int, p []int) api.Matrix {
	cells := []uint16{}
	for at, bin := range m.Cells {
		if at/m.Rows == col {
			bin = m.Cells[at-at%m.Rows+p[at%m.Rows]]
		}
		cells = append(cells, bin)
	}
	return matrix(m.Rows, m.Cols, cells...)
}

// undone is the permutation that undoes one.
func undone(p []int) []int {
	q := make([]int, len(p))
	for i, n := range p {
		q[n] = i
	}
	return q
}

// P11.1, P11.2: Turn of each column by every permutation of a few rows, and back.
func TestTurn(t *testing.T) {
	for rows := range 6 {
		m := matrix(rows, 3)
		for i := range rows * 3 {
			m.Cells = append(m.Cells, uint16(65535-i*4000))
		}
		for col := range 3 {
			turn(t, m, col, numbers(rows), m, api.OK)
			eachPerm(rows, func(p []int) {
				u := turned(m, col, p)
				turn(t, m, col, p, u, api.OK)
				turn(t, u, col, undone(p), m, api.OK)
			})
		}
	}
	m := matrix(4, 2, 2, 1, 3, 0, 7, 8, 9, 9)
	turn(t, m, 0, []int{1, 2, 3, 0}, matrix(4, 2, 1, 3, 0, 2, 7, 8, 9, 9), api.OK)
	turn(t, m, 1, []int{1, 2, 3, 0}, matrix(4, 2, 2, 1, 3, 0, 8, 9, 9, 7), api.OK)
	turn(t, m, 0, []int{3, 2, 1, 0}, matrix(4, 2, 0, 3, 1, 2, 7, 8, 9, 9), api.OK)
	turn(t, matrix(0, 3), 1, nil, matrix(0, 3), api.OK)
	turn(t, matrix(1, 1, 5), 0, []int{0}, matrix(1, 1, 5), api.OK)
}

// P11.2: a column that is turned by any permutation, and then by the one that undoes it, is as it was, as are the others.
func TestTurnedBack(t *testing.T) {
	r := rand.New(rand.NewSource(3))
	for range 300 {
		m := anyMatrix(r, 1+r.Intn(80), 1+r.Intn(8))
		col, p := r.Intn(m.Cols), r.Perm(m.Rows)
		u := turned(m, col, p)
		turn(t, m, col, p, u, api.OK)
		turn(t, u, col, undone(p), m, api.OK)
		turn(t, m, col, numbers(m.Rows), m, api.OK)
	}
}

// P11.1: Turn by what is no permutation of the rows.
func TestTurnWrongNumbers(t *testing.T) {
	r := rand.New(rand.NewSource(4))
	for _, rows := range []int{1, 2, 3, 5, 70} {
		m := anyMatrix(r, rows, 2)
		no := func(p []int) {
			t.Helper()
			turn(t, m, 0, p, api.Matrix{}, api.ErrShape)
			turn(t, m, 1, p, api.Matrix{}, api.ErrShape)
		}
		for _, p := range [][]int{numbers(rows), backward(rows), r.Perm(rows)} {
			no(p[:rows-1])
			no(p[1:])
			for _, extra := range slices.Concat(extremes, []int{0, rows - 1, rows, rows + 1}) {
				no(append(slices.Clone(p), extra))
				no(append([]int{extra}, p...))
			}
			for _, place := range []int{0, rows / 2, rows - 1} {
				for _, n := range slices.Concat(extremes, []int{rows, rows + 1, most, most + 1, 1<<32 + p[place], 1<<16 + p[place], -p[place] - 1}) {
					no(with(p, place, n))
				}
				for other := range rows {
					if other != place {
						no(with(p, place, p[other]))
					}
				}
			}
		}
		no(nil)
		no([]int{})
		no(numbers(2 * rows))
	}
}

// P11.1: Turn of a column that isn't there, and of a matrix without rows or columns.
func TestTurnWrongColumns(t *testing.T) {
	r := rand.New(rand.NewSource(5))
	for rows := range 4 {
		for columns := range 4 {
			m := anyMatrix(r, rows, columns)
			for _, col := range slices.Concat(extremes, []int{columns, columns + 1, most, 1<<32 + 1}) {
				turn(t, m, col, numbers(rows), api.Matrix{}, api.ErrShape)
			}
			for _, cells := range [][]uint16{append(slices.Clone(m.Cells), 1), m.Cells[:max(0, len(m.Cells)-1)]} {
				for col := range columns {
					if len(cells) != len(m.Cells) {
						turn(t, matrix(rows, columns, cells...), col, numbers(rows), api.Matrix{}, api.ErrShape)
					}
				}
			}
			if rows > 0 {
				continue
			}
			for _, p := range [][]int{{0}, {-1}, {0, 1}} {
				for col := range columns {
					turn(t, m, col, p, api.Matrix{}, api.ErrShape)
				}
			}
		}
	}
}
