package fixp

import (
	"math"
	"math/big"
	"slices"
	"testing"
)

const (
	top = math.MaxInt64
	low = math.MinInt64
)

// outsideShift has numbers that are no q of Shift; outsideMul has those that are none of Mul and One.
var (
	outsideShift = []int{low, low + 1, -64, -63, -1, 64, 65, 126, 127, 128, 192, 1 << 32, top}
	outsideMul   = append([]int{63}, outsideShift...)
)

// samples returns the edges of int64, numbers around powers of 2, and numbers with mixed bits.
func samples() []int64 {
	l := []int64{0, 1, -1, 2, -2, 3, -3, 7, -10, low, low + 1, low + 2, top, top - 1}
	for _, k := range []int{15, 16, 31, 32, 33, 61, 62} {
		p := int64(1) << k
		l = append(l, p, p-1, p+1, -p, -p-1, -p+1)
	}
	x := uint64(0x9e3779b97f4a7c15)
	for range 12 {
		x ^= x << 13
		x ^= x >> 7
		x ^= x << 17
		l = append(l, int64(x), int64(x)>>20)
	}
	return l
}

// modulo returns the int64 that differs from z by a multiple of 2^64.
func modulo(z *big.Int) int64 {
	mask := new(big.Int).SetUint64(math.MaxUint64)
	return int64(new(big.Int).And(z, mask).Uint64())
}

// whole returns hi·2^64 + lo.
func whole(hi int64, lo uint64) *big.Int {
	z := new(big.Int).Lsh(big.NewInt(hi), 64)
	return z.Add(z, new(big.Int).SetUint64(lo))
}

// product returns a·b as an integer.
func product(a, b int64) *big.Int {
	return new(big.Int).Mul(big.NewInt(a), big.NewInt(b))
}

// down returns z, divided by 2^q and rounded down, modulo 2^64; it divides, so that it has nothing in common with a shift.
func down(z *big.Int, q int) int64 {
	d := new(big.Int).Exp(big.NewInt(2), big.NewInt(int64(q)), nil)
	return modulo(new(big.Int).Div(z, d)) // Div rounds down for a positive divisor
}

func TestReferenceRoundsDown(t *testing.T) {
	for _, c := range []struct{ z, want int64 }{{3, 1}, {-3, -2}, {-4, -2}, {-1, -1}} {
		if got := down(big.NewInt(c.z), 1); got != c.want {
			t.Errorf("down(%d, 1) = %d, want %d", c.z, got, c.want)
		}
	}
}

// P1.1

func TestProductOfKnownNumbers(t *testing.T) {
	for _, c := range []struct {
		a, b int64
		hi   int64
		lo   uint64
	}{
		{0, 0, 0, 0},
		{3, 5, 0, 15},
		{3, -5, -1, 1<<64 - 15},
		{-3, -5, 0, 15},
		{low, low, 1 << 62, 0},
		{low, top, -1 << 62, 1 << 63},
		{top, top, 1<<62 - 1, 1},
		{low, -1, 0, 1 << 63},
		{low, 0, 0, 0},
		{1 << 40, -1 << 40, -1 << 16, 0},
	} {
		for _, f := range [][2]int64{{c.a, c.b}, {c.b, c.a}} {
			if hi, lo := Product(f[0], f[1]); hi != c.hi || lo != c.lo {
				t.Errorf("Product(%d, %d) = %d, %d, want %d, %d", f[0], f[1], hi, lo, c.hi, c.lo)
			}
		}
	}
}

func TestProductIsWhole(t *testing.T) {
	for _, a := range samples() {
		for _, b := range samples() {
			hi, lo := Product(a, b)
			if got, want := whole(hi, lo), product(a, b); got.Cmp(want) != 0 {
				t.Errorf("Product(%d, %d) = %d, %d, which is %v, want %v", a, b, hi, lo, got, want)
			}
		}
	}
}

func TestShiftOfKnownNumbers(t *testing.T) {
	for _, c := range []struct {
		hi   int64
		lo   uint64
		q    int
		want int64
	}{
		{0, 12, 2, 3},
		{-1, 1<<64 - 3, 1, -2},
		{7, 5, 0, 5},
		{low, 1<<64 - 1, 0, -1},
		{1, 0, 63, 2},
		{-1, 0, 63, -2},
		{-1, 1<<64 - 1, 63, -1},
		{low, 0, 63, 0},
		{top, 1<<64 - 1, 63, -1},
		{1, 0, 1, low},
	} {
		if got := Shift(c.hi, c.lo, c.q); got != c.want {
			t.Errorf("Shift(%d, %d, %d) = %d, want %d", c.hi, c.lo, c.q, got, c.want)
		}
	}
}

func TestShiftDividesAndRoundsDown(t *testing.T) {
	for _, hi := range samples() {
		for _, x := range samples() {
			lo := uint64(x)
			for q := range 64 {
				if got, want := Shift(hi, lo, q), down(whole(hi, lo), q); got != want {
					t.Errorf("Shift(%d, %d, %d) = %d, want %d", hi, lo, q, got, want)
				}
			}
		}
	}
}

func TestShiftOutsideIsZero(t *testing.T) {
	for _, x := range samples() {
		for _, q := range outsideShift {
			if got := Shift(x, uint64(x)|1, q); got != 0 {
				t.Errorf("Shift(%d, %d, %d) = %d, want 0", x, uint64(x)|1, q, got)
			}
		}
	}
}

// P1.2

func TestMulOfKnownNumbers(t *testing.T) {
	for _, c := range []struct {
		a, b int64
		q    int
		want int64
	}{
		{3, -1, 1, -2},
		{3, 1, 1, 1},
		{-3, -1, 1, 1},
		{-4, 1, 1, -2},
		{-1, 1, 62, -1},
		{1, 1, 62, 0},
		{3 << 8, 5 << 7, 8, 15 << 7},
		{low, 1, 62, -2},
		{low, low, 62, 0},
		{low, -1, 0, low},
		{low, top, 62, 2},
		{top, top, 62, -4},
		{top, top, 0, 1},
	} {
		if got := Mul(c.a, c.b, c.q); got != c.want {
			t.Errorf("Mul(%d, %d, %d) = %d, want %d", c.a, c.b, c.q, got, c.want)
		}
	}
}

func TestMulDividesTheWholeProductAndRoundsDown(t *testing.T) {
	for _, a := range samples() {
		for _, b := range samples() {
			z := product(a, b)
			for q := range 63 {
				if got, want := Mul(a, b, q), down(z, q); got != want {
					t.Errorf("Mul(%d, %d, %d) = %d, want %d", a, b, q, got, want)
				}
			}
		}
	}
}

func TestMulOutsideIsZero(t *testing.T) {
	for _, a := range samples() {
		for _, q := range outsideMul {
			if got := Mul(a, low, q); got != 0 {
				t.Errorf("Mul(%d, %d, %d) = %d, want 0", a, low, q, got)
			}
			if got := Mul(a, a, q); got != 0 {
				t.Errorf("Mul(%d, %d, %d) = %d, want 0", a, a, q, got)
			}
		}
	}
}

// P1.3

func TestSumOfKnownNumbers(t *testing.T) {
	for _, c := range []struct {
		l    []int64
		want int64
	}{
		{nil, 0},
		{[]int64{}, 0},
		{[]int64{low}, low},
		{[]int64{1, -2, 3}, 2},
		{[]int64{top, 1}, low},
		{[]int64{low, -1}, top},
		{[]int64{low, low}, 0},
		{[]int64{top, top, top}, top - 2},
		{[]int64{low, top}, -1},
	} {
		if got := Sum(c.l...); got != c.want {
			t.Errorf("Sum(%d) = %d, want %d", c.l, got, c.want)
		}
	}
	if got := Sum(); got != 0 {
		t.Errorf("Sum() = %d, want 0", got)
	}
}

func TestSumIsModulo(t *testing.T) {
	l, z := samples(), new(big.Int)
	for i, x := range l {
		z.Add(z, big.NewInt(x))
		if got, want := Sum(l[:i+1]...), modulo(z); got != want {
			t.Errorf("Sum of the first %d = %d, want %d", i+1, got, want)
		}
	}
}

func TestSumLeavesItsArguments(t *testing.T) {
	l := samples()
	Sum(l...)
	if !slices.Equal(l, samples()) {
		t.Error("Sum has changed its arguments")
	}
}

func TestSub(t *testing.T) {
	for _, c := range []struct{ a, b, want int64 }{{5, 3, 2}, {3, 5, -2}, {low, 1, top}, {top, -1, low}, {0, low, low}, {low, low, 0}, {-1, low, top}} {
		if got := Sub(c.a, c.b); got != c.want {
			t.Errorf("Sub(%d, %d) = %d, want %d", c.a, c.b, got, c.want)
		}
	}
	for _, a := range samples() {
		for _, b := range samples() {
			want := modulo(new(big.Int).Sub(big.NewInt(a), big.NewInt(b)))
			if got := Sub(a, b); got != want {
				t.Errorf("Sub(%d, %d) = %d, want %d", a, b, got, want)
			}
		}
	}
}

func TestOne(t *testing.T) {
	want := int64(1)
	for q := range 63 {
		if got := One(q); got != want {
			t.Errorf("One(%d) = %d, want %d", q, got, want)
		}
		want *= 2
	}
	for _, q := range outsideMul {
		if got := One(q); got != 0 {
			t.Errorf("One(%d) = %d, want 0", q, got)
		}
	}
}

// P1.4

func TestRelu(t *testing.T) {
	for _, c := range []struct{ a, want int64 }{{5, 5}, {1, 1}, {0, 0}, {-1, 0}, {-5, 0}, {top, top}, {low, 0}} {
		if got := Relu(c.a); got != c.want {
			t.Errorf("Relu(%d) = %d, want %d", c.a, got, c.want)
		}
	}
}

func TestGate(t *testing.T) {
	for _, g := range samples() {
		for _, a := range []int64{1, 2, top} {
			if got := Gate(a, g); got != g {
				t.Errorf("Gate(%d, %d) = %d, want %d", a, g, got, g)
			}
		}
		for _, a := range []int64{0, -1, low} {
			if got := Gate(a, g); got != 0 {
				t.Errorf("Gate(%d, %d) = %d, want 0", a, g, got)
			}
		}
	}
}

// P1.5

func TestSumDependsNeitherOnOrderNorOnGroups(t *testing.T) {
	l := samples()
	want := Sum(l...)
	for i := range l {
		turned := append(slices.Clone(l[i:]), l[:i]...)
		if got := Sum(turned...); got != want {
			t.Errorf("Sum, turned by %d = %d, want %d", i, got, want)
		}
		slices.Reverse(turned)
		if got := Sum(turned...); got != want {
			t.Errorf("Sum, turned by %d and reversed = %d, want %d", i, got, want)
		}
		if got := Sum(Sum(l[:i]...), Sum(l[i:]...)); got != want {
			t.Errorf("Sum in two groups from %d on = %d, want %d", i, got, want)
		}
	}
	slices.Sort(l)
	if got := Sum(l...); got != want {
		t.Errorf("Sum, sorted = %d, want %d", got, want)
	}
}

func TestMulDoesNotDependOnTheOrder(t *testing.T) {
	for _, a := range samples() {
		for _, b := range samples() {
			for q := -1; q <= 64; q++ {
				if x, y := Mul(a, b, q), Mul(b, a, q); x != y {
					t.Errorf("Mul(%d, %d, %d) = %d, but %d the other way round", a, b, q, x, y)
				}
			}
		}
	}
}

func TestMulWithOneIsTheNumber(t *testing.T) {
	for _, a := range samples() {
		for q := range 63 {
			if got := Mul(a, One(q), q); got != a {
				t.Errorf("Mul(%d, One(%d), %d) = %d", a, q, q, got)
			}
		}
	}
}

// P1, P2 (no state from call to call)

func TestNoArgumentsPanic(t *testing.T) {
	qs := append([]int{0, 1, 61, 62}, outsideMul...)
	for _, a := range samples() {
		for _, b := range samples() {
			hi, lo := Product(a, b)
			for _, q := range qs {
				x, y, one := Mul(a, b, q), Shift(hi, lo, q), One(q)
				if Mul(a, b, q) != x || Shift(hi, lo, q) != y || One(q) != one {
					t.Errorf("a second call with %d, %d, %d has another result", a, b, q)
				}
			}
			Sum(a, b)
			Sub(a, b)
			Relu(a)
			Gate(a, b)
		}
	}
}
