package mat

import (
	"math"
	"slices"
	"sync"
	"testing"

	"sakia/fixp"
	"sakia/vec"
)

const (
	top  = math.MaxInt64
	low  = math.MinInt64
	most = 1 << 20 // the most rows, columns, and elements of New
)

// shifts has numbers of fraction bits, and numbers that are none.
var shifts = []int{0, 1, 2, 8, 31, 32, 33, 61, 62, 63, 64, 126, -1, -62, 1 << 32, low, top}

// beyond has indices that no matrix has.
var beyond = []int{-1, -2, most, most + 1, -most, 1 << 32, -1 << 32, 1 << 61, 1 << 62, low, low + 1, top - 1, top}

// grid is a matrix as a list of its rows.
type grid []vec.Vector

// matrix returns the matrix with these rows, which has other elements in its memory beyond its length.
func (g grid) matrix() Matrix {
	return Matrix{len(g), len(g[0]), roomy(slices.Concat(g...))}
}

// turned returns the columns as rows.
func (g grid) turned() grid {
	t := make(grid, len(g[0]))
	for c := range t {
		for _, row := range g {
			t[c] = append(t[c], row[c])
		}
	}
	return t
}

// times returns the sum of the products of each row and x.
func (g grid) times(x vec.Vector, q int) vec.Vector {
	l := make(vec.Vector, len(g))
	for r, row := range g {
		for c, a := range row {
			l[r] = fixp.Sum(l[r], fixp.Mul(a, x[c], q))
		}
	}
	return l
}

// products returns the product of each element of y, for a row, and each of x.
func products(y, x vec.Vector, q int) grid {
	g := make(grid, len(y))
	for r := range g {
		for c := range x {
			g[r] = append(g[r], fixp.Mul(y[r], x[c], q))
		}
	}
	return g
}

// mixed returns n numbers of all sizes, none of which is 0.
func mixed(n int, seed uint64) vec.Vector {
	v := make(vec.Vector, n)
	for i := range v {
		z := (uint64(i) + seed<<40 + 1) * 0x9e3779b97f4a7c15
		z = (z ^ z>>30) * 0xbf58476d1ce4e5b9
		z ^= z >> 27
		v[i] = int64(z)>>(z%59) | 1
	}
	return v
}

// edges returns the edges of int64 and small numbers, from one of them on.
func edges(from int) vec.Vector {
	l := vec.Vector{low, top, 1, -1, low + 1, 0, 2, -2, top - 1, 3, -3, 1 << 62, -1 << 62, 1 << 31, -1 << 32}
	return slices.Concat(l[from:], l[:from])
}

// mixedGrid returns rows of mixed numbers.
func mixedGrid(rows, cols int) grid {
	g := make(grid, rows)
	for r := range g {
		g[r] = mixed(cols, uint64(r*64+cols))
	}
	return g
}

// grids returns matrices with all small Rows and Cols, some greater ones, and the edges of int64.
func grids() []grid {
	var l []grid
	for rows := 1; rows < 6; rows++ {
		for cols := 1; cols < 6; cols++ {
			l = append(l, mixedGrid(rows, cols))
		}
	}
	for _, size := range [][2]int{{1, 40}, {40, 1}, {7, 31}, {31, 7}, {2, 300}, {300, 2}} {
		l = append(l, mixedGrid(size[0], size[1]))
	}
	n := len(edges(0))
	all := make(grid, n)
	for r := range all {
		all[r] = edges(r)
		l = append(l, grid{edges(r)}, grid{edges(r)}.turned())
	}
	return append(l, all, all[:4], grid{{0, 0}, {0, 0}}, grid{{1, 2}, {3, 4}})
}

// right returns the matrices of grids.
func right() []Matrix {
	var l []Matrix
	for _, g := range grids() {
		l = append(l, g.matrix())
	}
	return l
}

// columns returns vectors of n elements.
func columns(n int) []vec.Vector {
	l := []vec.Vector{make(vec.Vector, n), mixed(n, 5), mixed(n, 6), slices.Repeat(vec.Vector{1}, n), slices.Repeat(vec.Vector{low}, n), slices.Repeat(vec.Vector{top}, n)}
	for _, at := range []int{0, n / 2, n - 1} {
		one := make(vec.Vector, n)
		one[at] = 1
		l = append(l, one)
	}
	for from := range 3 {
		l = append(l, slices.Repeat(edges(from), n/15+1)[:n])
	}
	return l
}

// wrong returns matrices that are not right.
func wrong() []Matrix {
	l := []Matrix{
		{}, {0, 0, vec.Vector{}}, {0, 0, vec.Vector{1}},
		{0, 1, nil}, {1, 0, nil}, {0, 1, vec.Vector{1}}, {1, 0, vec.Vector{1}}, {0, 3, mixed(3, 0)}, {3, 0, mixed(3, 0)},
		{1, 1, nil}, {1, 1, vec.Vector{}}, {1, 1, vec.Vector{1, 2}}, {2, 2, mixed(3, 0)}, {2, 2, mixed(5, 0)}, {2, 2, mixed(2, 0)}, {2, 2, nil},
		{3, 2, mixed(5, 0)}, {3, 2, mixed(7, 0)}, {3, 2, mixed(3, 0)}, {3, 2, mixed(4, 0)}, {3, 2, mixed(12, 0)}, {2, 3, mixed(5, 0)}, {2, 3, mixed(7, 0)}, {2, 3, mixed(9, 0)},
		{-1, -1, vec.Vector{1}}, {-1, 1, vec.Vector{1}}, {1, -1, vec.Vector{1}}, {-1, 1, nil}, {1, -1, nil}, {-2, -3, mixed(6, 0)}, {-2, 3, mixed(6, 0)}, {2, -3, mixed(6, 0)}, {-1, 0, nil}, {0, -1, nil},
		{most + 1, 1, mixed(most+1, 0)}, {1, most + 1, mixed(most+1, 0)}, {most + 1, 0, nil}, {0, most + 1, nil}, {most, 1, mixed(most-1, 0)}, {1, most, mixed(most+1, 0)}, {most, most, nil}, {most, most, vec.Vector{1}},
	}
	// The products of these are right modulo 2^32 or 2^64 only.
	const third = -6148914691236517205
	for _, m := range []Matrix{
		{low, low, nil}, {top, top, vec.Vector{1}}, {low, 0, nil}, {top, -1, vec.Vector{1}}, {low, 1, nil}, {low, 2, nil}, {low, -2, nil}, {low, top, nil},
		{1 << 32, 1 << 32, nil}, {1 << 32, 1, nil}, {1<<32 + 1, 1, vec.Vector{1}}, {1<<32 + 2, 3, mixed(6, 0)}, {1 << 62, 4, nil}, {1 << 44, most, nil}, {1<<61 + 1, 8, mixed(8, 0)}, {1<<61 + 1, 16, mixed(16, 0)}, {3, third, vec.Vector{1}}, {6, third, vec.Vector{1, 2}},
	} {
		l = append(l, m, Matrix{m.Cols, m.Rows, m.V})
	}
	return l
}

// small returns a number that is from 0 to 2^20 + 1 and as near to n as it can be, for a vector with so many elements.
func small(n int) int { return max(0, min(n, most+1)) }

// roomy returns a copy with other elements in its memory beyond its length.
func roomy(v vec.Vector) vec.Vector { return append(slices.Clone(v), 91, 92, 93, 94)[:len(v)] }

// whole returns a copy of a vector with what is in its memory beyond its length.
func whole(v vec.Vector) vec.Vector { return slices.Clone(v[:cap(v)]) }

// spoil changes all memory of a vector.
func spoil(v vec.Vector) {
	for i := range v[:cap(v)] {
		v[:cap(v)][i] ^= 0x55
	}
}

// same reports whether two matrices have the same Rows, Cols and elements.
func same(a, b Matrix) bool {
	return a.Rows == b.Rows && a.Cols == b.Cols && slices.Equal(a.V, b.V)
}

// checkMatrix tests that a matrix is the wanted one.
func checkMatrix(t *testing.T, what string, got, want Matrix) {
	t.Helper()
	if !same(got, want) {
		t.Fatalf("%s is %d × %d with %d, want %d × %d with %d", what, got.Rows, got.Cols, some(got.V), want.Rows, want.Cols, some(want.V))
	}
}

// checkZero tests that a matrix is a zero Matrix.
func checkZero(t *testing.T, what string, got Matrix) {
	t.Helper()
	checkMatrix(t, what, got, Matrix{})
}

// checkVector tests a result that has elements.
func checkVector(t *testing.T, what string, got vec.Vector, ok bool, want vec.Vector) {
	t.Helper()
	if !slices.Equal(got, want) || !ok {
		t.Fatalf("%s is %d, %t, want %d, true", what, some(got), ok, some(want))
	}
}

// checkNothing tests a result that has no elements.
func checkNothing(t *testing.T, what string, got vec.Vector, ok bool) {
	t.Helper()
	if len(got) != 0 || ok {
		t.Fatalf("%s is %d, %t, want nothing and false", what, some(got), ok)
	}
}

// some returns the first elements of a vector, as many as can be read.
func some(v vec.Vector) vec.Vector { return v[:min(len(v), 20)] }

// P7.1

func TestNew(t *testing.T) {
	for _, c := range [][2]int{
		{1, 1}, {1, 2}, {2, 1}, {2, 3}, {3, 2}, {16, 16}, {1000, 1000}, {1023, 1025}, {1, 1000}, {1000, 1},
		{most, 1}, {1, most}, {most / 2, 2}, {2, most / 2}, {1024, 1024}, {most/2 - 1, 2}, {3, 349525}, {349525, 3}, {1, most - 1},
	} {
		m := New(c[0], c[1])
		checkMatrix(t, "New", m, Matrix{c[0], c[1], make(vec.Vector, c[0]*c[1])})
		if !m.Right() {
			t.Errorf("New(%d, %d) is not right", c[0], c[1])
		}
	}
}

func TestNewOfNoMatrix(t *testing.T) {
	for _, c := range [][2]int{
		{0, 0}, {0, 1}, {0, -1}, {0, most}, {0, top}, {0, low}, {-1, -1}, {-1, 1}, {-2, -3}, {-2, 3}, {-most, 1}, {-1, -most}, {-1024, -1024}, {low, low}, {low, 1}, {low, -1}, {low, 2}, {low, most},
		{most + 1, 1}, {most, 2}, {most/2 + 1, 2}, {349526, 3}, {1024, 1025}, {most, most}, {top, 1}, {top, 2}, {top, top}, {top, -1}, {top, low}, {top - 1, 2},
		{1 << 32, 1}, {1 << 32, 1 << 32}, {1<<32 + 1, 1 << 32}, {1 << 62, 4}, {1 << 61, 8}, {1<<61 + 1, 8}, {1 << 44, most}, {1<<32 + 1, 1}, {3, -6148914691236517205}, {1 << 21, 1},
	} {
		checkZero(t, "New", New(c[0], c[1]))
		checkZero(t, "New", New(c[1], c[0]))
	}
}

func TestOf(t *testing.T) {
	for _, m := range right() {
		got, ok := Of(m.Rows, m.Cols, m.V)
		checkMatrix(t, "Of", got, m)
		if !ok || !got.Right() {
			t.Errorf("Of(%d, %d, %d) = %t", m.Rows, m.Cols, some(m.V), ok)
		}
	}
}

// The chapter limits the product of Rows and Cols for New and Outer only.
func TestOfManyElements(t *testing.T) {
	for _, c := range [][2]int{{most, 1}, {1, most}, {1024, 1024}, {1024, 1025}, {1025, 1024}, {most, 2}, {2, most}} {
		v := mixed(c[0]*c[1], 3)
		m, ok := Of(c[0], c[1], v)
		checkMatrix(t, "Of", m, Matrix{c[0], c[1], v})
		if !ok || !m.Right() {
			t.Errorf("Of(%d, %d) = %t", c[0], c[1], ok)
		}
	}
}

func TestOfNoMatrix(t *testing.T) {
	for _, w := range wrong() {
		m, ok := Of(w.Rows, w.Cols, w.V)
		checkZero(t, "Of", m)
		if ok {
			t.Errorf("Of(%d, %d) with %d elements = true", w.Rows, w.Cols, len(w.V))
		}
	}
}

func TestOfCopiesItsVector(t *testing.T) {
	for _, g := range grids() {
		v := g.matrix().V
		m, _ := Of(len(g), len(g[0]), v)
		other, _ := Of(len(g), len(g[0]), v)
		spoil(v)
		checkMatrix(t, "Of, after a change of its vector,", m, g.matrix())
		was := whole(v)
		spoil(m.V)
		checkMatrix(t, "Of, after a change of another one,", other, g.matrix())
		if !slices.Equal(whole(v), was) {
			t.Fatalf("the vector of Of changes with the matrix to %d", some(whole(v)))
		}
	}
}

func TestNewGivesNewMemory(t *testing.T) {
	a, b := New(2, 3), New(2, 3)
	spoil(a.V)
	checkMatrix(t, "New", b, Matrix{2, 3, make(vec.Vector, 6)})
	checkMatrix(t, "New", New(2, 3), b)
}

func TestRight(t *testing.T) {
	for _, m := range right() {
		if !m.Right() {
			t.Errorf("Right of %d × %d with %d elements = false", m.Rows, m.Cols, len(m.V))
		}
	}
	for _, w := range wrong() {
		if w.Right() {
			t.Errorf("Right of %d × %d with %d elements = true", w.Rows, w.Cols, len(w.V))
		}
	}
}

func TestRightOfAllSmallMatrices(t *testing.T) {
	for rows := -4; rows < 5; rows++ {
		for cols := -4; cols < 5; cols++ {
			for n := range 20 {
				want := rows > 0 && cols > 0 && n == rows*cols
				m := Matrix{rows, cols, mixed(n, 1)}
				if got := m.Right(); got != want {
					t.Errorf("Right of %d × %d with %d elements = %t", rows, cols, n, got)
				}
				if _, ok := Of(rows, cols, m.V); ok != want {
					t.Errorf("Of(%d, %d) with %d elements = %t", rows, cols, n, ok)
				}
			}
		}
	}
}

func TestAt(t *testing.T) {
	for _, g := range grids() {
		m := g.matrix()
		for r, row := range g {
			for c, want := range row {
				if got := m.At(r, c); got != want {
					t.Fatalf("At(%d, %d) = %d, want %d", r, c, got, want)
				}
			}
		}
	}
	v := mixed(most, 0)
	for _, c := range []struct {
		m    Matrix
		r, c int
	}{{Matrix{most, 1, v}, most - 1, 0}, {Matrix{1, most, v}, 0, most - 1}, {Matrix{1024, 1024, v}, 1023, 1023}} {
		if got := c.m.At(c.r, c.c); got != v[most-1] {
			t.Errorf("At(%d, %d) = %d, want %d", c.r, c.c, got, v[most-1])
		}
	}
}

func TestAtOutside(t *testing.T) {
	for _, size := range [][2]int{{1, 1}, {1, 5}, {5, 1}, {2, 8}, {8, 2}, {3, 4}} {
		m := mixedGrid(size[0], size[1]).matrix()
		rows, cols := slices.Concat(beyond, []int{m.Rows, m.Rows + 1}), slices.Concat(beyond, []int{m.Cols, m.Cols + 1, m.Cols * 2})
		for r := range m.Rows {
			for _, c := range cols {
				checkNoElement(t, m, r, c)
			}
		}
		for _, r := range rows {
			for _, c := range append(cols, 0, m.Cols-1) {
				checkNoElement(t, m, r, c)
			}
		}
	}
}

func TestAtOfWrongMatrices(t *testing.T) {
	for _, w := range wrong() {
		for _, r := range append([]int{0, 1, w.Rows - 1, w.Rows}, beyond...) {
			for _, c := range append([]int{0, 1, w.Cols - 1, w.Cols}, beyond...) {
				checkNoElement(t, w, r, c)
			}
		}
	}
}

// checkNoElement tests that At returns 0, in a matrix in which no element is 0.
func checkNoElement(t *testing.T, m Matrix, r, c int) {
	t.Helper()
	if got := m.At(r, c); got != 0 {
		t.Fatalf("At(%d, %d) of %d × %d with %d elements = %d, want 0", r, c, m.Rows, m.Cols, len(m.V), got)
	}
}

// P7.2

func TestMulOfKnownMatrices(t *testing.T) {
	for _, c := range []struct {
		g    grid
		x    vec.Vector
		q    int
		want vec.Vector
	}{
		{grid{{1, 2}, {3, 4}}, vec.Vector{1, 1}, 0, vec.Vector{3, 7}},
		{grid{{1, 2}, {3, 4}}, vec.Vector{5, -6}, 0, vec.Vector{-7, -9}},
		{grid{{1, 2, 3}}, vec.Vector{100, 10, 1}, 0, vec.Vector{123}},
		{grid{{1}, {2}, {3}}, vec.Vector{-7}, 0, vec.Vector{-7, -14, -21}},
		{grid{{3}}, vec.Vector{-1}, 1, vec.Vector{-2}},
		{grid{{1, 1}}, vec.Vector{1, 1}, 1, vec.Vector{0}}, // each product is rounded, not the sum
		{grid{{-1, -1}}, vec.Vector{1, 1}, 1, vec.Vector{-2}},
		{grid{{3, 5}, {-3, 5}}, vec.Vector{3, 3}, 2, vec.Vector{2 + 3, -3 + 3}},
		{grid{{1 << 8, 3 << 7}}, vec.Vector{2 << 8, 1 << 7}, 8, vec.Vector{2<<8 + 3<<6}},
		{grid{{top, top}, {low, low}, {top, low}}, vec.Vector{1, 1}, 0, vec.Vector{-2, 0, -1}},
		{grid{{top, 1}, {low, -1}}, vec.Vector{1, 1}, 0, vec.Vector{low, top}},
		{grid{{low, top}}, vec.Vector{low, top}, 62, vec.Vector{0 - 4}}, // 2^64 + 2^64 - 4, with what is left rounded down
		{grid{{low}, {top}, {low + 1}}, vec.Vector{low}, 62, vec.Vector{0, 2, -2}},
		{grid{{low}}, vec.Vector{-1}, 0, vec.Vector{low}},
		{grid{{low}}, vec.Vector{low}, 0, vec.Vector{0}},
		{grid{{1, 2}, {3, 4}}, vec.Vector{1, 1}, 63, vec.Vector{0, 0}},
		{grid{{1, 2}, {3, 4}}, vec.Vector{1, 1}, -1, vec.Vector{0, 0}},
	} {
		got, ok := c.g.matrix().Mul(c.x, c.q)
		checkVector(t, "Mul", got, ok, c.want)
	}
}

func TestMul(t *testing.T) {
	for _, g := range grids() {
		m := g.matrix()
		for _, x := range columns(m.Cols) {
			for _, q := range shifts {
				got, ok := m.Mul(x, q)
				checkVector(t, "Mul", got, ok, g.times(x, q))
			}
		}
	}
}

func TestMulOfManyElements(t *testing.T) {
	for _, size := range [][2]int{{most, 1}, {1, most}, {1024, 1025}, {most, 2}, {2, most}} {
		g := mixedGrid(size[0], size[1])
		x := mixed(size[1], 2)
		got, ok := g.matrix().Mul(x, 20)
		checkVector(t, "Mul", got, ok, g.times(x, 20))
	}
}

func TestMulWithAnotherNumberOfElements(t *testing.T) {
	for _, m := range right() {
		checkLengths(t, "Mul", m, Matrix.Mul, m.Cols)
	}
}

func TestMulOfWrongMatrices(t *testing.T) {
	checkWrong(t, "Mul", Matrix.Mul)
}

// checkLengths tests that a method of a right matrix returns nothing for any other number of elements than the wanted one.
func checkLengths(t *testing.T, what string, m Matrix, method func(m Matrix, v vec.Vector, q int) (vec.Vector, bool), wanted int) {
	t.Helper()
	for _, n := range []int{0, wanted - 1, wanted + 1, wanted * 2, m.Rows, m.Cols, len(m.V)} {
		if n != wanted {
			got, ok := method(m, roomy(mixed(n, 1)), 8)
			checkNothing(t, what, got, ok)
		}
	}
	got, ok := method(m, nil, 0)
	checkNothing(t, what, got, ok)
}

// checkWrong tests that a method of matrices that are not right returns nothing.
func checkWrong(t *testing.T, what string, method func(m Matrix, v vec.Vector, q int) (vec.Vector, bool)) {
	t.Helper()
	for _, w := range wrong() {
		for _, n := range []int{0, 1, 2, 3, small(w.Cols), small(w.Rows), len(w.V)} {
			for _, q := range []int{0, 62, -1, 63} {
				got, ok := method(w, mixed(n, 1), q)
				checkNothing(t, what, got, ok)
			}
		}
	}
}

// P7.3

func TestBackOfKnownMatrices(t *testing.T) {
	for _, c := range []struct {
		g    grid
		y    vec.Vector
		q    int
		want vec.Vector
	}{
		{grid{{1, 2}, {3, 4}}, vec.Vector{1, 1}, 0, vec.Vector{4, 6}},
		{grid{{1, 2}, {3, 4}}, vec.Vector{5, -6}, 0, vec.Vector{-13, -14}},
		{grid{{1, 2, 3}, {4, 5, 6}}, vec.Vector{10, 1}, 0, vec.Vector{14, 25, 36}},
		{grid{{1}, {2}, {3}}, vec.Vector{100, 10, 1}, 0, vec.Vector{123}},
		{grid{{1, 2, 3}}, vec.Vector{-7}, 0, vec.Vector{-7, -14, -21}},
		{grid{{3}}, vec.Vector{-1}, 1, vec.Vector{-2}},
		{grid{{1}, {1}}, vec.Vector{1, 1}, 1, vec.Vector{0}},
		{grid{{-1}, {-1}}, vec.Vector{1, 1}, 1, vec.Vector{-2}},
		{grid{{top, low, top}, {top, low, low}}, vec.Vector{1, 1}, 0, vec.Vector{-2, 0, -1}},
		{grid{{low}, {top}}, vec.Vector{low, top}, 62, vec.Vector{0 - 4}},
		{grid{{1, 2, 3}, {4, 5, 6}}, vec.Vector{1, 1}, 63, vec.Vector{0, 0, 0}},
		{grid{{1, 2, 3}, {4, 5, 6}}, vec.Vector{1, 1}, -1, vec.Vector{0, 0, 0}},
	} {
		got, ok := c.g.matrix().Back(c.y, c.q)
		checkVector(t, "Back", got, ok, c.want)
	}
}

func TestBack(t *testing.T) {
	for _, g := range grids() {
		m := g.matrix()
		for _, y := range columns(m.Rows) {
			for _, q := range shifts {
				got, ok := m.Back(y, q)
				checkVector(t, "Back", got, ok, g.turned().times(y, q))
			}
		}
	}
}

func TestBackOfManyElements(t *testing.T) {
	for _, size := range [][2]int{{most, 1}, {1, most}, {1024, 1025}, {most, 2}, {2, most}} {
		g := mixedGrid(size[0], size[1])
		y := mixed(size[0], 2)
		got, ok := g.matrix().Back(y, 20)
		checkVector(t, "Back", got, ok, g.turned().times(y, 20))
	}
}

func TestBackWithAnotherNumberOfElements(t *testing.T) {
	for _, m := range right() {
		checkLengths(t, "Back", m, Matrix.Back, m.Rows)
	}
}

func TestBackOfWrongMatrices(t *testing.T) {
	checkWrong(t, "Back", Matrix.Back)
}

func TestTurn(t *testing.T) {
	checkMatrix(t, "Turn", Matrix{2, 3, vec.Vector{1, 2, 3, 4, 5, 6}}.Turn(), Matrix{3, 2, vec.Vector{1, 4, 2, 5, 3, 6}})
	for _, g := range grids() {
		m := g.matrix()
		got := m.Turn()
		checkMatrix(t, "Turn", got, g.turned().matrix())
		if !got.Right() {
			t.Errorf("Turn of %d × %d is not right", m.Rows, m.Cols)
		}
		for r := range m.Rows {
			for c := range m.Cols {
				if got.At(c, r) != m.At(r, c) {
					t.Fatalf("Turn has %d in the row %d and the column %d, want %d", got.At(c, r), c, r, m.At(r, c))
				}
			}
		}
	}
}

func TestTurnOfManyElements(t *testing.T) {
	for _, size := range [][2]int{{most, 1}, {1, most}, {1024, 1025}, {most, 2}, {2, most}} {
		g := mixedGrid(size[0], size[1])
		checkMatrix(t, "Turn", g.matrix().Turn(), g.turned().matrix())
	}
}

func TestTurnOfWrongMatrices(t *testing.T) {
	for _, w := range wrong() {
		checkZero(t, "Turn", w.Turn())
	}
}

// P7.4

func TestOuterOfKnownVectors(t *testing.T) {
	for _, c := range []struct {
		y, x vec.Vector
		q    int
		want grid
	}{
		{vec.Vector{1, 2}, vec.Vector{10, 20, 30}, 0, grid{{10, 20, 30}, {20, 40, 60}}},
		{vec.Vector{10, 20, 30}, vec.Vector{1, 2}, 0, grid{{10, 20}, {20, 40}, {30, 60}}},
		{vec.Vector{3}, vec.Vector{-1}, 1, grid{{-2}}},
		{vec.Vector{-1}, vec.Vector{3, 5}, 2, grid{{-1, -2}}},
		{vec.Vector{low, top}, vec.Vector{-1, 2}, 0, grid{{low, 0}, {-top, -2}}},
		{vec.Vector{low, top}, vec.Vector{low, top}, 62, grid{{0, 2}, {2, -4}}},
		{vec.Vector{1, 2}, vec.Vector{3}, 63, grid{{0}, {0}}},
		{vec.Vector{1, 2}, vec.Vector{3}, -1, grid{{0}, {0}}},
	} {
		checkMatrix(t, "Outer", Outer(c.y, c.x, c.q), c.want.matrix())
	}
}

func TestOuter(t *testing.T) {
	for _, rows := range []int{1, 2, 3, 5, 16, 40} {
		for _, cols := range []int{1, 2, 3, 4, 15, 33} {
			for i, y := range columns(rows) {
				x := columns(cols)[(i+rows)%len(columns(cols))]
				for _, q := range shifts {
					m := Outer(y, x, q)
					checkMatrix(t, "Outer", m, products(y, x, q).matrix())
					if !m.Right() {
						t.Fatalf("Outer of %d and %d elements is not right", rows, cols)
					}
				}
			}
		}
	}
}

func TestOuterOfNoElements(t *testing.T) {
	for _, n := range []int{0, 1, 2, 1000, most, most + 1} {
		for _, q := range []int{0, 62, 63, -1} {
			for _, none := range []vec.Vector{nil, {}} {
				checkZero(t, "Outer", Outer(none, mixed(n, 1), q))
				checkZero(t, "Outer", Outer(mixed(n, 1), none, q))
			}
		}
	}
}

func TestOuterOfManyElements(t *testing.T) {
	for _, size := range [][2]int{{most, 1}, {1, most}, {1024, 1024}, {2, most / 2}, {most / 2, 2}, {1023, 1025}, {3, 349525}, {349525, 3}} {
		y, x := mixed(size[0], 1), mixed(size[1], 2)
		checkMatrix(t, "Outer", Outer(y, x, 30), products(y, x, 30).matrix())
	}
}

func TestOuterOfTooManyElements(t *testing.T) {
	for _, size := range [][2]int{{most + 1, 1}, {1024, 1025}, {most/2 + 1, 2}, {349526, 3}, {most, 2}, {most, most}, {most + 1, most + 1}, {2 * most, 2 * most}, {1 << 16, 1 << 16}} {
		y, x := mixed(size[0], 1), mixed(size[1], 2)
		for _, q := range []int{0, 62, 63} {
			checkZero(t, "Outer", Outer(y, x, q))
			checkZero(t, "Outer", Outer(x, y, q))
		}
	}
}

// P7.5

func TestBackIsMulOfTurn(t *testing.T) {
	for _, m := range right() {
		for _, q := range shifts {
			for _, y := range columns(m.Rows) {
				want, _ := m.Turn().Mul(y, q)
				got, ok := m.Back(y, q)
				checkVector(t, "Back", got, ok, want)
			}
			for _, x := range columns(m.Cols) {
				want, _ := m.Turn().Back(x, q)
				got, ok := m.Mul(x, q)
				checkVector(t, "Mul", got, ok, want)
			}
		}
		for _, n := range []int{0, m.Rows - 1, m.Rows + 1} {
			got, ok := m.Turn().Mul(mixed(n, 1), 8)
			checkNothing(t, "Mul of Turn", got, ok)
			got, ok = m.Back(mixed(n, 1), 8)
			checkNothing(t, "Back", got, ok)
		}
	}
}

func TestTurnOfTurn(t *testing.T) {
	for _, g := range append(grids(), mixedGrid(1024, 1025), mixedGrid(2, most), mixedGrid(most, 1)) {
		checkMatrix(t, "Turn of Turn", g.matrix().Turn().Turn(), g.matrix())
	}
	for _, w := range wrong() {
		checkZero(t, "Turn of Turn", w.Turn().Turn())
	}
}

func TestTurnOfOuter(t *testing.T) {
	for _, q := range shifts {
		y, x := mixed(5, 1), mixed(7, 2)
		checkMatrix(t, "Turn of Outer", Outer(y, x, q).Turn(), Outer(x, y, q))
	}
}

// All of it

func TestArgumentsAreNotChanged(t *testing.T) {
	for _, m := range slices.Concat(wrong(), right()) {
		if len(m.V) > 1000 {
			continue
		}
		m.V = roomy(m.V)
		y, x := roomy(mixed(small(min(m.Rows, 1000)), 1)), roomy(mixed(small(min(m.Cols, 1000)), 2))
		v, first, second := whole(m.V), whole(y), whole(x)
		was := m
		Of(m.Rows, m.Cols, m.V)
		m.Right()
		m.At(0, 0)
		for _, q := range []int{0, 62, -1} {
			m.Mul(x, q)
			m.Mul(m.V, q)
			m.Back(y, q)
			m.Back(m.V, q)
			Outer(y, x, q)
			Outer(m.V, m.V, q)
		}
		m.Turn()
		checkMatrix(t, "the matrix", m, was)
		if !slices.Equal(whole(m.V), v) || !slices.Equal(whole(y), first) || !slices.Equal(whole(x), second) {
			t.Fatalf("%d, %d and %d were changed to %d, %d and %d", some(v), first, second, some(m.V), y, x)
		}
	}
}

func TestResultsAreNewMemory(t *testing.T) {
	for _, m := range []Matrix{{1, 1, vec.Vector{1}}, {1, 4, mixed(4, 1)}, {4, 1, mixed(4, 1)}, {3, 5, mixed(15, 1)}, {2, 2, vec.Vector{1, 0, 0, 1}}} {
		y, x := slices.Repeat(vec.Vector{1}, m.Rows), slices.Repeat(vec.Vector{1}, m.Cols)
		for _, call := range []func() vec.Vector{
			func() vec.Vector { l, _ := m.Mul(x, 0); return l },
			func() vec.Vector { l, _ := m.Back(y, 0); return l },
			func() vec.Vector { return m.Turn().V },
			func() vec.Vector { return Outer(y, x, 0).V },
			func() vec.Vector { return Outer(y, m.V, 0).V },
			func() vec.Vector { c, _ := Of(m.Rows, m.Cols, m.V); return c.V },
		} {
			v, first, second := slices.Clone(m.V), slices.Clone(y), slices.Clone(x)
			a, b := call(), call()
			want := slices.Clone(b)
			spoil(a)
			if c := call(); !slices.Equal(b, want) || !slices.Equal(c, want) {
				t.Errorf("a changed result changes others to %d and %d, want %d", b, c, want)
			}
			if !slices.Equal(m.V, v) || !slices.Equal(y, first) || !slices.Equal(x, second) {
				t.Fatalf("a changed result changes the arguments to %d, %d and %d", m.V, y, x)
			}
		}
	}
}

func TestRowsEndAtTheirLength(t *testing.T) {
	g := mixedGrid(3, 4)
	m := g.matrix()
	for r, row := range m.rows() {
		if !slices.Equal(row, g[r]) || cap(row) != 4 {
			t.Errorf("the row %d is %d, with memory for %d, want %d", r, row, cap(row), g[r])
		}
		if r == 1 {
			break
		}
	}
	for r := range (Matrix{}).rows() {
		t.Errorf("a zero Matrix has a row %d", r)
	}
}

// TestCallsWithGoroutines is for go test -race: calls may share nothing that one of them writes.
func TestCallsWithGoroutines(t *testing.T) {
	g := mixedGrid(9, 7)
	m, y, x := g.matrix(), mixed(9, 1), mixed(7, 2)
	var group sync.WaitGroup
	for range 4 {
		group.Go(func() {
			for range 50 {
				if l, ok := m.Mul(x, 8); !slices.Equal(l, g.times(x, 8)) || !ok {
					t.Errorf("Mul = %d, %t", l, ok)
				}
				if l, ok := m.Back(y, 8); !slices.Equal(l, g.turned().times(y, 8)) || !ok {
					t.Errorf("Back = %d, %t", l, ok)
				}
				if !same(m.Turn().Turn(), m) || !same(Outer(y, x, 8).Turn(), Outer(x, y, 8)) || !m.Right() {
					t.Error("Turn, Outer or Right fails")
				}
			}
		})
	}
	group.Wait()
}
