package tests

import (
	"fmt"
	"math"
	"math/rand"
	"slices"
	"sync"
	"testing"

	"loop.example/g00259/impl"
)

// sameAnswer takes no cells and nil for the same, as chapter 1 does.
func sameAnswer(t *testing.T, what string, got impl.MatrixOut, want impl.MatrixOut) {
	t.Helper()
	g, w := got.Matrix, want.Matrix
	if got.Code != want.Code || g.Rows != w.Rows || g.Cols != w.Cols || !slices.Equal(g.Cells, w.Cells) {
		t.Fatalf("%s: got %s, want %s", what, shown(got), shown(want))
	}
}

func sameMatrix(t *testing.T, what string, got impl.MatrixOut, want impl.Matrix) {
	t.Helper()
	sameAnswer(t, what, got, impl.MatrixOut{Matrix: want})
}

func refused(t *testing.T, what string, got impl.MatrixOut, code int64) {
	t.Helper()
	sameAnswer(t, what, got, impl.MatrixOut{Code: code})
}

func noCells(rows int64, cols int64) impl.Matrix {
	return impl.Matrix{Rows: rows, Cols: cols, Cells: make([]int64, rows*cols)}
}

func row(m impl.Matrix, i int64) []int64 {
	return m.Cells[i*m.Cols : (i+1)*m.Cols]
}

func unit(side int64) impl.Matrix {
	m := noCells(side, side)
	for i := range side {
		row(m, i)[i] = 1
	}
	return m
}

func copied(m impl.Matrix) impl.Matrix {
	m.Cells = slices.Clone(m.Cells)
	return m
}

func turned(m impl.Matrix) impl.Matrix {
	out := noCells(m.Cols, m.Rows)
	for i := range m.Rows {
		for j := range m.Cols {
			row(out, j)[i] = row(m, i)[j]
		}
	}
	return out
}

// drawn has all bytes, or few kinds of them, or mostly zeros, so that not all matrices have their inverse.
func drawn(r *rand.Rand, rows int64, cols int64) impl.Matrix {
	m := noCells(rows, cols)
	kinds := []int64{256, 256, 2, 3}[r.Intn(4)]
	zeros := []int{0, 0, 2, 4}[r.Intn(4)]
	for i := range m.Cells {
		if r.Intn(5) >= zeros {
			m.Cells[i] = r.Int63n(kinds)
		}
	}
	return m
}

func cellProduct(a impl.Matrix, b impl.Matrix) impl.Matrix {
	out := noCells(a.Rows, b.Cols)
	for i := range a.Rows {
		for j := range b.Cols {
			for k := range a.Cols {
				row(out, i)[j] ^= bitProduct(row(a, i)[k], row(b, k)[j])
			}
		}
	}
	return out
}

// ranked has just so many independent rows: it is made of a matrix that shows it, by factors that have inverses, the
// rows in a drawn order.
func ranked(r *rand.Rand, rows int64, cols int64, rank int64) impl.Matrix {
	middle := noCells(rows, cols)
	for i := range rank {
		row(middle, i)[i] = 1 + r.Int63n(255)
	}
	m := cellProduct(cellProduct(turned(upper(r, rows)), middle), upper(r, cols))
	return picked(m, r.Perm(int(rows)))
}

// upper has ones from corner to corner, and zeros below them, so it has an inverse.
func upper(r *rand.Rand, side int64) impl.Matrix {
	m := unit(side)
	for i := range side {
		for j := i + 1; j < side; j++ {
			row(m, i)[j] = r.Int63n(256)
		}
	}
	return m
}

func picked(m impl.Matrix, order []int) impl.Matrix {
	out := noCells(int64(len(order)), m.Cols)
	for i, from := range order {
		copy(row(out, int64(i)), row(m, int64(from)))
	}
	return out
}

func without(m impl.Matrix, i int64, j int64) impl.Matrix {
	out := impl.Matrix{Rows: m.Rows - 1, Cols: m.Cols - 1}
	for at, cell := range m.Cells {
		if int64(at)/m.Cols != i && int64(at)%m.Cols != j {
			out.Cells = append(out.Cells, cell)
		}
	}
	return out
}

// determinant goes along the first row; signs are one in this field.
func determinant(m impl.Matrix) int64 {
	if m.Rows == 0 {
		return 1
	}
	sum := int64(0)
	for j, cell := range row(m, 0) {
		if cell != 0 {
			sum ^= bitProduct(cell, determinant(without(m, 0, int64(j))))
		}
	}
	return sum
}

// wantInverse is put together from the determinants of parts.
func wantInverse(m impl.Matrix) impl.MatrixOut {
	d := bitInverse(determinant(m))
	if d == 0 {
		return impl.MatrixOut{Code: impl.ErrNone}
	}
	out := noCells(m.Rows, m.Rows)
	for i := range m.Rows {
		for j := range m.Rows {
			row(out, i)[j] = bitProduct(d, determinant(without(m, j, i)))
		}
	}
	return impl.MatrixOut{Matrix: out}
}

func TestMaxSide(t *testing.T) {
	same(t, "MaxSide", impl.MaxSide, 16)
}

func TestMatrixProducts(t *testing.T) {
	r := rand.New(rand.NewSource(31))
	for rows := int64(1); rows <= impl.MaxSide; rows++ {
		for inner := int64(1); inner <= impl.MaxSide; inner++ {
			for cols := int64(1); cols <= impl.MaxSide; cols++ {
				a, b := drawn(r, rows, inner), drawn(r, inner, cols)
				sameMatrix(t, "product", impl.MatrixMul(a, b), cellProduct(a, b))
			}
		}
	}
}

func TestMatrixProductsKnown(t *testing.T) {
	a := impl.Matrix{Rows: 2, Cols: 3, Cells: []int64{1, 2, 3, 0, 128, 255}}
	b := impl.Matrix{Rows: 3, Cols: 1, Cells: []int64{7, 2, 1}}
	sameMatrix(t, "by a column", impl.MatrixMul(a, b), impl.Matrix{Rows: 2, Cols: 1, Cells: []int64{0, 29 ^ 255}})
	sameMatrix(t, "row by column", impl.MatrixMul(turned(b), b), impl.Matrix{Rows: 1, Cols: 1, Cells: []int64{21 ^ 4 ^ 1}})
	sameMatrix(t, "column by row", impl.MatrixMul(b, turned(b)),
		impl.Matrix{Rows: 3, Cols: 3, Cells: []int64{21, 14, 7, 14, 4, 2, 7, 2, 1}})
}

func TestMatrixProductsAtTheSides(t *testing.T) {
	r := rand.New(rand.NewSource(32))
	for rows := int64(1); rows <= impl.MaxSide; rows++ {
		for cols := int64(1); cols <= impl.MaxSide; cols++ {
			m := drawn(r, rows, cols)
			sameMatrix(t, "unit ahead", impl.MatrixMul(unit(rows), m), m)
			sameMatrix(t, "unit behind", impl.MatrixMul(m, unit(cols)), m)
			sameMatrix(t, "zeros ahead", impl.MatrixMul(noCells(3, rows), m), noCells(3, cols))
			sameMatrix(t, "zeros behind", impl.MatrixMul(m, noCells(cols, 5)), noCells(rows, 5))
		}
	}
}

func bracketsAgree(t *testing.T, a impl.Matrix, b impl.Matrix, c impl.Matrix) {
	t.Helper()
	left := impl.MatrixMul(impl.MatrixMul(a, b).Matrix, c)
	right := impl.MatrixMul(a, impl.MatrixMul(b, c).Matrix)
	sameAnswer(t, "brackets", left, right)
	sameMatrix(t, "all three", left, cellProduct(cellProduct(a, b), c))
}

func TestMatrixBrackets(t *testing.T) {
	r := rand.New(rand.NewSource(33))
	for side := int64(1); side <= impl.MaxSide; side++ {
		for range 20 {
			bracketsAgree(t, drawn(r, side, side), drawn(r, side, side), drawn(r, side, side))
		}
		for range 40 {
			p, q, s := 1+r.Int63n(impl.MaxSide), 1+r.Int63n(impl.MaxSide), 1+r.Int63n(impl.MaxSide)
			bracketsAgree(t, drawn(r, side, p), drawn(r, p, q), drawn(r, q, s))
		}
	}
}

// hasInverse asks for all that chapter 4 and promise 3 say of a square matrix.
func hasInverse(t *testing.T, m impl.Matrix, want bool) {
	t.Helper()
	same(t, "side is rank", impl.MatrixRank(m) == m.Rows, want)
	got := impl.MatrixInv(m)
	if !want {
		refused(t, fmt.Sprint("inverse of ", m), got, impl.ErrNone)
		return
	}
	same(t, fmt.Sprint("code of ", m), got.Code, impl.OK)
	same(t, "inverse is right", impl.MatrixRight(got.Matrix), true)
	sameMatrix(t, "from the left", impl.MatrixMul(got.Matrix, m), unit(m.Rows))
	sameMatrix(t, "from the right", impl.MatrixMul(m, got.Matrix), unit(m.Rows))
	sameMatrix(t, "cell by cell", impl.MatrixOut{Matrix: cellProduct(got.Matrix, m)}, unit(m.Rows))
	sameMatrix(t, "there and back", impl.MatrixInv(got.Matrix), m)
}

func TestMatrixInverses(t *testing.T) {
	r := rand.New(rand.NewSource(34))
	for side := int64(1); side <= impl.MaxSide; side++ {
		with := 0
		for range 60 {
			m := drawn(r, side, side)
			has := impl.MatrixInv(m).Code == impl.OK
			hasInverse(t, m, has)
			if has {
				with++
			}
		}
		same(t, "some have an inverse, some have none", with > 0 && with < 60, true)
	}
}

func TestMatrixRanks(t *testing.T) {
	r := rand.New(rand.NewSource(35))
	for rows := int64(1); rows <= impl.MaxSide; rows++ {
		for cols := int64(1); cols <= impl.MaxSide; cols++ {
			for rank := range min(rows, cols) + 1 {
				m := ranked(r, rows, cols, rank)
				same(t, fmt.Sprint("rank of ", m), impl.MatrixRank(m), rank)
				same(t, fmt.Sprint("rank turned of ", m), impl.MatrixRank(turned(m)), rank)
				if rows == cols {
					hasInverse(t, m, rank == rows)
				}
			}
		}
	}
}

func TestMatrixRanksKnown(t *testing.T) {
	known := []struct {
		rows, cols, want int64
		cells            []int64
	}{
		{1, 1, 0, []int64{0}}, {1, 1, 1, []int64{1}}, {1, 1, 1, []int64{255}},
		{1, 3, 0, []int64{0, 0, 0}}, {1, 3, 1, []int64{0, 0, 9}}, {3, 1, 1, []int64{0, 0, 9}},
		{2, 2, 1, []int64{2, 4, 2, 4}}, {2, 2, 2, []int64{0, 1, 1, 0}}, {2, 2, 1, []int64{0, 1, 0, 5}},
		{2, 3, 1, []int64{1, 2, 3, 2, 4, 6}}, {2, 3, 2, []int64{1, 2, 3, 2, 4, 7}},
		{3, 3, 2, []int64{1, 2, 3, 4, 5, 6, 5, 7, 5}}, {3, 3, 2, []int64{0, 0, 1, 0, 1, 0, 0, 1, 1}},
		{2, 2, 2, []int64{1, 2, 3, 4}}, {2, 2, 1, []int64{16, 16, 16, 16}}, {2, 2, 1, []int64{16, 29, 1, 16}},
	}
	for _, k := range known {
		m := impl.Matrix{Rows: k.rows, Cols: k.cols, Cells: k.cells}
		same(t, fmt.Sprint("rank of ", m), impl.MatrixRank(m), k.want)
	}
	for side := int64(1); side <= impl.MaxSide; side++ {
		same(t, "rank of the unit matrix", impl.MatrixRank(unit(side)), side)
		same(t, "rank of zeros", impl.MatrixRank(noCells(side, side)), 0)
		hasInverse(t, unit(side), true)
		hasInverse(t, noCells(side, side), false)
	}
}

func TestMatrixInversesOfOneCell(t *testing.T) {
	for a := range int64(256) {
		m := impl.Matrix{Rows: 1, Cols: 1, Cells: []int64{a}}
		hasInverse(t, m, a != 0)
		sameAnswer(t, "one cell", impl.MatrixInv(m), wantInverse(m))
	}
}

func TestMatrixInversesByDeterminants(t *testing.T) {
	cells := []int64{0, 1, 2, 29, 142, 255}
	for n := range 6 * 6 * 6 * 6 {
		m := impl.Matrix{Rows: 2, Cols: 2, Cells: []int64{cells[n%6], cells[n/6%6], cells[n/36%6], cells[n/216]}}
		hasInverse(t, m, determinant(m) != 0)
		sameAnswer(t, fmt.Sprint("inverse of ", m), impl.MatrixInv(m), wantInverse(m))
	}
	r := rand.New(rand.NewSource(36))
	for side := int64(2); side <= 5; side++ {
		for range 100 {
			m := drawn(r, side, side)
			hasInverse(t, m, determinant(m) != 0)
			sameAnswer(t, fmt.Sprint("inverse of ", m), impl.MatrixInv(m), wantInverse(m))
		}
	}
}

func TestMatrixAllOfBits(t *testing.T) {
	for bits := range 1 << 9 {
		m := noCells(3, 3)
		for i := range m.Cells {
			m.Cells[i] = int64(bits >> i & 1)
		}
		hasInverse(t, m, determinant(m) != 0)
		sameAnswer(t, fmt.Sprint("inverse of ", m), impl.MatrixInv(m), wantInverse(m))
	}
}

// mixed is the sum of all rows but that one, each so many times as is drawn.
func mixed(r *rand.Rand, m impl.Matrix, but int64) []int64 {
	sum := make([]int64, m.Cols)
	for i := range m.Rows {
		times := r.Int63n(256)
		for j, cell := range row(m, i) {
			if i != but {
				sum[j] ^= bitProduct(times, cell)
			}
		}
	}
	return sum
}

func TestMatrixRowsThatHang(t *testing.T) {
	r := rand.New(rand.NewSource(37))
	for side := int64(1); side <= impl.MaxSide; side++ {
		full := ranked(r, side, side, side)
		for i := range side {
			other := (i + 1 + r.Int63n(max(side-1, 1))) % side
			times := 2 + r.Int63n(254)
			rows := [][]int64{make([]int64, side), mixed(r, full, i)}
			if side > 1 {
				multiple := make([]int64, side)
				for j, cell := range row(full, other) {
					multiple[j] = bitProduct(times, cell)
				}
				rows = append(rows, row(full, other), multiple)
			}
			for _, hangs := range rows {
				m := copied(full)
				copy(row(m, i), hangs)
				same(t, fmt.Sprint("rank of ", m), impl.MatrixRank(m), side-1)
				hasInverse(t, m, false)
				hasInverse(t, turned(m), false)
			}
		}
	}
}

func TestMatrixRowsAreChanged(t *testing.T) {
	r := rand.New(rand.NewSource(38))
	for side := int64(1); side <= impl.MaxSide; side++ {
		back := make([]int, side)
		for i := range back {
			back[i] = int(side) - 1 - i
		}
		for _, order := range [][]int{back, append(back[1:], back[0]), r.Perm(int(side)), r.Perm(int(side))} {
			m := picked(unit(side), order)
			hasInverse(t, m, true)
			sameMatrix(t, "order taken back", impl.MatrixInv(m), turned(m))
		}
		for range 10 {
			m := cellProduct(alikeAtFirst(side), upper(r, side))
			hasInverse(t, m, true)
			hasInverse(t, picked(m, r.Perm(int(side))), true)
		}
	}
	m := impl.Matrix{Rows: 3, Cols: 3, Cells: []int64{1, 1, 1, 1, 1, 0, 1, 0, 0}}
	sameAnswer(t, "alike at first", impl.MatrixInv(m), wantInverse(m))
	hasInverse(t, m, true)
}

// alikeAtFirst has rows of which each is the one ahead of it but for one cell, and so has a 0 where it should lead once
// that one is taken away; also behind a product with upper.
func alikeAtFirst(side int64) impl.Matrix {
	m := noCells(side, side)
	for i := range side {
		for j := range side - i {
			row(m, i)[j] = 1
		}
	}
	return m
}

func TestMatrixPick(t *testing.T) {
	r := rand.New(rand.NewSource(39))
	for rows := int64(1); rows <= impl.MaxSide; rows++ {
		for count := 1; count <= impl.MaxSide; count++ {
			m := drawn(r, rows, 1+r.Int63n(impl.MaxSide))
			order, asked := make([]int, count), make([]int64, count)
			for i := range order {
				order[i] = r.Intn(int(rows))
				asked[i] = int64(order[i])
			}
			sameMatrix(t, "picked", impl.MatrixPick(m, asked), picked(m, order))
		}
	}
	m := impl.Matrix{Rows: 3, Cols: 2, Cells: []int64{1, 2, 3, 4, 5, 6}}
	sameMatrix(t, "the last one", impl.MatrixPick(m, []int64{2}), impl.Matrix{Rows: 1, Cols: 2, Cells: []int64{5, 6}})
	sameMatrix(t, "the first one", impl.MatrixPick(m, []int64{0}), impl.Matrix{Rows: 1, Cols: 2, Cells: []int64{1, 2}})
	sameMatrix(t, "one twice", impl.MatrixPick(m, []int64{2, 0, 2}), impl.Matrix{Rows: 3, Cols: 2, Cells: []int64{5, 6, 1, 2, 5, 6}})
	sameMatrix(t, "more than there are", impl.MatrixPick(m, make([]int64, 16)),
		impl.Matrix{Rows: 16, Cols: 2, Cells: slices.Repeat([]int64{1, 2}, 16)})
}

func TestMatrixPickOfNoSuchRows(t *testing.T) {
	for rows := int64(1); rows <= impl.MaxSide; rows++ {
		m := noCells(rows, 3)
		for _, wrong := range []int64{-1, -rows, rows, rows + 1, 16, 17, 256, 1 << 32, -1 << 32, math.MinInt64, math.MinInt64 + 1, math.MaxInt64} {
			if wrong >= 0 && wrong < rows {
				continue
			}
			for at := range 16 {
				asked := make([]int64, 16)
				asked[at] = wrong
				refused(t, fmt.Sprint("row ", wrong, " of ", rows), impl.MatrixPick(m, asked), impl.ErrForm)
				refused(t, fmt.Sprint("row ", wrong, " of ", rows), impl.MatrixPick(m, asked[at:]), impl.ErrForm)
			}
		}
	}
}

func TestMatrixPickCounts(t *testing.T) {
	for _, m := range []impl.Matrix{unit(1), unit(5), unit(16), noCells(16, 1)} {
		refused(t, "nil", impl.MatrixPick(m, nil), impl.ErrForm)
		refused(t, "none", impl.MatrixPick(m, []int64{}), impl.ErrForm)
		for _, count := range []int{17, 18, 32, 256, 399, 400} {
			refused(t, "too many", impl.MatrixPick(m, make([]int64, count)), impl.ErrForm)
		}
		for _, count := range []int{401, 402, 1000, 65537} {
			refused(t, "more than MaxList", impl.MatrixPick(m, make([]int64, count)), impl.ErrSize)
			refused(t, "more than MaxList, and wrong ones", impl.MatrixPick(m, slices.Repeat([]int64{-1}, count)), impl.ErrSize)
		}
		same(t, "MaxSide of them", impl.MatrixPick(m, make([]int64, 16)).Code, impl.OK)
	}
	for _, m := range wrongMatrices() {
		for _, count := range []int{0, 1, 16, 17, 400} {
			refused(t, "of a wrong one", impl.MatrixPick(m, make([]int64, count)), impl.ErrForm)
		}
		for _, count := range []int{401, 500} {
			refused(t, "more than MaxList of a wrong one", impl.MatrixPick(m, make([]int64, count)), impl.ErrSize)
		}
	}
}

// wrongSides has among them sides whose product, wrapped around, is a number of cells that could be there.
func wrongSides() [][2]int64 {
	l := [][2]int64{
		{-1, -1}, {-4, -4}, {-1, -256}, {-16, -16}, {math.MaxInt64, math.MaxInt64}, {math.MaxInt64, 1}, {1, math.MaxInt64},
		{1 << 32, 1 << 32}, {1<<62 + 1, 4}, {4, 1<<62 + 1}, {1<<60 + 1, 16}, {16, 1<<60 + 1}, {1<<63 - 1, -1}, {1 << 31, 1 << 33},
		{-1<<62 + 1, 4}, {3, -6148914691236517204}, {6148914691236517206, 3},
	}
	edges := []int64{math.MinInt64, math.MinInt64 + 1, -17, -16, -1, 0, 1, 2, 15, 16, 17, 18, 1 << 32, math.MaxInt64 - 1, math.MaxInt64}
	for _, rows := range edges {
		for _, cols := range edges {
			if rows < 1 || rows > 16 || cols < 1 || cols > 16 {
				l = append(l, [2]int64{rows, cols})
			}
		}
	}
	return l
}

func wrongMatrices() []impl.Matrix {
	l := []impl.Matrix{{}, {Rows: 1, Cols: 1}, {Rows: 16, Cols: 16}, {Cells: []int64{0}}, {Cells: make([]int64, 256)}}
	for _, sides := range wrongSides() {
		counts := []int64{0, 1, 16, 17, 256, 272}
		if product := sides[0] * sides[1]; product > 0 && product <= 1000 {
			counts = append(counts, product)
		}
		for _, count := range counts {
			l = append(l, impl.Matrix{Rows: sides[0], Cols: sides[1], Cells: make([]int64, count)})
		}
	}
	for _, sides := range [][2]int64{{1, 1}, {1, 2}, {2, 1}, {2, 2}, {3, 5}, {1, 16}, {16, 1}, {16, 16}} {
		rows, cols := sides[0], sides[1]
		product := rows * cols
		for _, count := range []int64{0, product - 1, product + 1, 2 * product, product + 256} {
			l = append(l, impl.Matrix{Rows: rows, Cols: cols, Cells: make([]int64, count)})
		}
		l = append(l, impl.Matrix{Rows: rows, Cols: cols, Cells: []int64{}}, impl.Matrix{Rows: rows, Cols: cols})
		for _, cell := range noBytes() {
			for _, at := range []int64{0, product / 2, product - 1} {
				m := noCells(rows, cols)
				m.Cells[at] = cell
				l = append(l, m)
			}
		}
	}
	return l
}

func TestMatrixRight(t *testing.T) {
	for rows := int64(1); rows <= impl.MaxSide; rows++ {
		for cols := int64(1); cols <= impl.MaxSide; cols++ {
			m := noCells(rows, cols)
			same(t, "zeros", impl.MatrixRight(m), true)
			for i := range m.Cells {
				m.Cells[i] = 255
			}
			same(t, "greatest", impl.MatrixRight(m), true)
			for _, count := range []int64{0, rows*cols - 1, rows*cols + 1} {
				same(t, "other cells", impl.MatrixRight(impl.Matrix{Rows: rows, Cols: cols, Cells: make([]int64, count)}), false)
			}
			for at := range m.Cells {
				m.Cells[at] = 256
				same(t, "one cell too great", impl.MatrixRight(m), false)
				m.Cells[at] = -1
				same(t, "one cell below 0", impl.MatrixRight(m), false)
				m.Cells[at] = 255
			}
		}
	}
	for _, m := range wrongMatrices() {
		if impl.MatrixRight(m) {
			t.Fatalf("right: %s", shown(m))
		}
	}
}

func TestMatrixOfWrongOnes(t *testing.T) {
	for _, m := range wrongMatrices() {
		what := shown(m)
		refused(t, "MatrixInv of "+what, impl.MatrixInv(m), impl.ErrForm)
		refused(t, "MatrixPick of "+what, impl.MatrixPick(m, []int64{0}), impl.ErrForm)
		same(t, "MatrixRank of "+what, impl.MatrixRank(m), 0)
		refused(t, "MatrixMul, both, of "+what, impl.MatrixMul(m, m), impl.ErrForm)
		for side := int64(1); side <= impl.MaxSide; side++ {
			refused(t, "MatrixMul, left, of "+what, impl.MatrixMul(m, unit(side)), impl.ErrForm)
			refused(t, "MatrixMul, right, of "+what, impl.MatrixMul(unit(side), m), impl.ErrForm)
		}
	}
}

func TestMatrixSidesThatDoNotMeet(t *testing.T) {
	for cols := int64(1); cols <= impl.MaxSide; cols++ {
		for rows := int64(1); rows <= impl.MaxSide; rows++ {
			if cols == rows {
				continue
			}
			refused(t, "MatrixMul", impl.MatrixMul(unit(cols), unit(rows)), impl.ErrForm)
			refused(t, "MatrixMul, outer sides alike", impl.MatrixMul(noCells(3, cols), noCells(rows, 3)), impl.ErrForm)
			refused(t, "MatrixInv", impl.MatrixInv(noCells(rows, cols)), impl.ErrForm)
		}
	}
	refused(t, "MatrixInv of a row", impl.MatrixInv(impl.Matrix{Rows: 1, Cols: 4, Cells: []int64{1, 2, 3, 4}}), impl.ErrForm)
	refused(t, "MatrixInv of a column", impl.MatrixInv(impl.Matrix{Rows: 4, Cols: 1, Cells: []int64{1, 2, 3, 4}}), impl.ErrForm)
}

func TestCauchy(t *testing.T) {
	for k := int64(1); k <= 8; k++ {
		for m := range int64(7) {
			want := noCells(k+m, k)
			for i := range k {
				row(want, i)[i] = 1
			}
			for i := range m {
				for j := range k {
					row(want, k+i)[j] = bitInverse((k + i) ^ j)
				}
			}
			got := impl.Cauchy(k, m)
			sameMatrix(t, fmt.Sprint("Cauchy of ", k, " and ", m), got, want)
			same(t, "right", impl.MatrixRight(got.Matrix), true)
			same(t, "rank", impl.MatrixRank(got.Matrix), k)
		}
	}
	sameMatrix(t, "1 and 0", impl.Cauchy(1, 0), unit(1))
	sameMatrix(t, "8 and 0", impl.Cauchy(8, 0), unit(8))
	sameMatrix(t, "2 and 2", impl.Cauchy(2, 2),
		impl.Matrix{Rows: 4, Cols: 2, Cells: []int64{1, 0, 0, 1, 142, 244, 244, 142}})
}

func TestCauchyRefuses(t *testing.T) {
	edges := []int64{math.MinInt64, math.MinInt64 + 1, -8, -1, 0, 1, 5, 6, 7, 8, 9, 16, 256, 1 << 32, 1<<32 + 1, math.MaxInt64 - 1, math.MaxInt64}
	for _, k := range edges {
		for _, m := range edges {
			if k >= 1 && k <= 8 && m >= 0 && m <= 6 {
				same(t, "code", impl.Cauchy(k, m).Code, impl.OK)
			} else {
				refused(t, fmt.Sprint("Cauchy of ", k, " and ", m), impl.Cauchy(k, m), impl.ErrForm)
			}
		}
	}
}

// roomy has room behind its cells, where nothing may be written either.
func roomy(m impl.Matrix) impl.Matrix {
	all := append(slices.Clone(m.Cells), slices.Repeat([]int64{77}, 300)...)
	m.Cells = all[:len(m.Cells)]
	return m
}

func whole(l []int64) []int64 {
	return l[:cap(l)]
}

// keepsApart holds what was handed in against what it was, and changes it and the answer by turns.
func keepsApart(t *testing.T, what string, call func() impl.MatrixOut, args ...[]int64) {
	t.Helper()
	var before [][]int64
	for _, l := range args {
		before = append(before, slices.Clone(whole(l)))
	}
	got, again := call(), call()
	unchanged := func(when string) {
		for i, l := range args {
			same(t, what+": "+when, slices.Equal(whole(l), before[i]), true)
		}
	}
	unchanged("behind the call")
	sameAnswer(t, what+": asked twice", got, again)
	kept := slices.Clone(again.Matrix.Cells)
	for i := range whole(got.Matrix.Cells) {
		whole(got.Matrix.Cells)[i] = 99
	}
	unchanged("behind a change of the answer")
	same(t, what+": two answers", slices.Equal(again.Matrix.Cells, kept), true)
	for _, l := range args {
		for i := range whole(l) {
			whole(l)[i] = 55
		}
	}
	same(t, what+": behind a change of what was handed in", slices.Equal(again.Matrix.Cells, kept), true)
}

func TestMatrixKeepsApart(t *testing.T) {
	r := rand.New(rand.NewSource(40))
	for side := int64(1); side <= impl.MaxSide; side++ {
		for _, rank := range []int64{side, side - 1} {
			a, b, c := roomy(ranked(r, side, side, rank)), roomy(drawn(r, side, 3)), roomy(unit(side))
			keepsApart(t, "MatrixMul", func() impl.MatrixOut { return impl.MatrixMul(a, b) }, a.Cells, b.Cells)
			keepsApart(t, "MatrixMul by the unit matrix", func() impl.MatrixOut { return impl.MatrixMul(c, c) }, c.Cells)
			a = roomy(ranked(r, side, side, rank))
			keepsApart(t, "MatrixInv", func() impl.MatrixOut { return impl.MatrixInv(a) }, a.Cells)
			c = roomy(unit(side))
			keepsApart(t, "MatrixInv of the unit matrix", func() impl.MatrixOut { return impl.MatrixInv(c) }, c.Cells)
			a = roomy(ranked(r, side, side, rank))
			keepsApart(t, "MatrixRank", func() impl.MatrixOut { return impl.MatrixOut{Code: impl.MatrixRank(a)} }, a.Cells)
			a = roomy(drawn(r, side, 4))
			rows := roomy(impl.Matrix{Cells: make([]int64, side)}).Cells
			for i := range rows {
				rows[i] = int64(i)
			}
			keepsApart(t, "MatrixPick of all rows", func() impl.MatrixOut { return impl.MatrixPick(a, rows) }, a.Cells, rows)
		}
	}
	keepsApart(t, "Cauchy", func() impl.MatrixOut { return impl.Cauchy(8, 6) })
	for _, m := range wrongMatrices()[:20] {
		m := roomy(m)
		keepsApart(t, "a wrong one", func() impl.MatrixOut { return impl.MatrixMul(m, m) }, m.Cells)
	}
}

func TestMatrixSideBySide(t *testing.T) {
	r := rand.New(rand.NewSource(41))
	a, b := ranked(r, 16, 16, 16), drawn(r, 16, 16)
	product, inverse := cellProduct(a, b), impl.MatrixInv(a).Matrix
	const workers = 16
	var products, inverses [workers]impl.MatrixOut
	var ranks [workers]int64
	var all sync.WaitGroup
	for i := range workers {
		all.Go(func() {
			products[i], inverses[i], ranks[i] = impl.MatrixMul(a, b), impl.MatrixInv(a), impl.MatrixRank(a)
		})
	}
	all.Wait()
	for i := range workers {
		sameMatrix(t, "product", products[i], product)
		sameMatrix(t, "inverse", inverses[i], inverse)
		same(t, "rank", ranks[i], 16)
	}
}
