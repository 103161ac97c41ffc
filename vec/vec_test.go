package vec

import (
	"math"
	"math/big"
	"slices"
	"testing"
)

const (
	top = math.MaxInt64
	low = math.MinInt64
)

// outside has numbers that are no q.
var outside = []int{low, low + 1, -64, -63, -1, 63, 64, 65, 126, 127, 128, 1 << 32, top}

// mixed returns n numbers with mixed bits, of all sizes; other seeds give other ones.
func mixed(n int, seed uint64) Vector {
	v := make(Vector, n)
	x := 0x9e3779b97f4a7c15 ^ (seed+1)*0xbf58476d1ce4e5b9
	for i := range v {
		x ^= x << 13
		x ^= x >> 7
		x ^= x << 17
		v[i] = int64(x) >> (x % 60)
	}
	return v
}

// edges returns the edges of int64 and small numbers.
func edges() Vector {
	return Vector{0, 1, -1, 2, -2, 3, -3, low, low + 1, top, top - 1, 1 << 62, -1 << 62, 1 << 32, -1 << 32}
}

// samples returns vectors of different lengths.
func samples() []Vector {
	l := []Vector{nil, {}, {0}, {1}, {-1}, {low}, {top}, {0, 0}, {1, 2}, {2, 1}, {1, 2, 0}, edges()}
	for n := range 20 {
		l = append(l, mixed(n, uint64(n)))
	}
	return l
}

// number returns x as an integer of any size.
func number(x int64) *big.Int { return big.NewInt(x) }

// modulo returns the number from 0 to 2^64 - 1 that differs from z by a multiple of 2^64.
func modulo(z *big.Int) uint64 {
	mask := new(big.Int).SetUint64(math.MaxUint64)
	return new(big.Int).And(z, mask).Uint64()
}

// plus returns the sum of the elements with the index i, modulo 2^64.
func plus(i int, l ...Vector) int64 {
	z := new(big.Int)
	for _, v := range l {
		z.Add(z, number(v[i]))
	}
	return int64(modulo(z))
}

// times returns a·b, divided by 2^q and rounded down, modulo 2^64, and 0 for another q than 0 to 62.
func times(a, b int64, q int) int64 {
	if q < 0 || q > 62 {
		return 0
	}
	z := new(big.Int).Mul(number(a), number(b))
	d := new(big.Int).Exp(number(2), number(int64(q)), nil)
	return int64(modulo(z.Div(z, d))) // Div rounds down for a positive divisor
}

// hash returns the hash as the chapter's sum of powers.
func hash(v Vector) uint64 {
	m, n := number(1099511628211), int64(len(v))
	z := new(big.Int).Exp(m, number(n), nil)
	for i, x := range v {
		p := new(big.Int).Exp(m, number(n-int64(i)), nil)
		z.Add(z, p.Mul(p, number(x)))
	}
	return modulo(z)
}

// keep returns a function that reports whether vectors, and what lies in their memory beyond their length, are still as they are now.
func keep(l ...Vector) func() bool {
	was := make([]Vector, len(l))
	for i, v := range l {
		was[i] = slices.Clone(v[:cap(v)])
	}
	return func() bool {
		for i, v := range l {
			if !slices.Equal(v[:cap(v)], was[i]) {
				return false
			}
		}
		return true
	}
}

// roomy returns a vector that has memory beyond its length.
func roomy(v Vector) Vector {
	return append(append(Vector{}, v...), 71, 72, 73)[:len(v)]
}

// apart reports whether result stays as it is when all memory of the vectors is changed, and they when all of its is.
func apart(result Vector, l ...Vector) bool {
	same := keep(result)
	for _, v := range l {
		for i := range v[:cap(v)] {
			v[:cap(v)][i] ^= 0x55
		}
	}
	if !same() {
		return false
	}
	same = keep(l...)
	for i := range result[:cap(result)] {
		result[:cap(result)][i] ^= 0x2a
	}
	return same()
}

// P3.1

func TestSumOfKnownVectors(t *testing.T) {
	for i, c := range []struct {
		l    []Vector
		want Vector
	}{
		{nil, nil},
		{[]Vector{}, nil},
		{[]Vector{nil}, nil},
		{[]Vector{{}, nil, {}}, nil},
		{[]Vector{{1, 2}, {10, 20}}, Vector{11, 22}},
		{[]Vector{{5, -6, 7}}, Vector{5, -6, 7}},
		{[]Vector{{1, 2}, {10, 20}, {-100, 200}}, Vector{-89, 222}},
		{[]Vector{{top, low, top, low}, {1, -1, top, low}}, Vector{low, top, -2, 0}},
		{[]Vector{{low}, {low}, {low}}, Vector{low}},
		{[]Vector{{top}, {top}, {top}, {5}}, Vector{top - 2 + 5 + low + low}},
	} {
		if got, ok := Sum(c.l...); !ok || !slices.Equal(got, c.want) {
			t.Errorf("%d: Sum = %d, %t, want %d, true", i, got, ok, c.want)
		}
	}
}

func TestSumAddsEveryElement(t *testing.T) {
	for n := range 12 {
		for k := 1; k < 9; k++ {
			l := make([]Vector, k)
			for j := range l {
				l[j] = mixed(n, uint64(100*n+10*k+j))
			}
			got, ok := Sum(l...)
			if !ok || len(got) != n {
				t.Fatalf("Sum of %d vectors of %d elements has %d, %t", k, n, len(got), ok)
			}
			for i := range got {
				if want := plus(i, l...); got[i] != want {
					t.Errorf("Sum of %d vectors of %d elements has %d at %d, want %d", k, n, got[i], i, want)
				}
			}
		}
	}
}

func TestSumOfDifferentLengths(t *testing.T) {
	for i, l := range [][]Vector{
		{{1}, {}},
		{{}, {1}},
		{nil, {1}},
		{{1}, nil},
		{{1, 2}, {1, 2, 3}},
		{{1, 2, 3}, {1, 2}},
		{{1}, {2}, {3, 4}},
		{{1}, {2, 3}, {4}},
		{{1, 2}, {3}, {4}},
		{{1, 2}, {3}, {4, 5}, {6}},
		{{1, 2}, {3, 4, 5}, {6}},
	} {
		if got, ok := Sum(l...); ok || len(got) != 0 {
			t.Errorf("%d: Sum = %d, %t, want nothing, false", i, got, ok)
		}
	}
}

func TestSumKeepsItsArguments(t *testing.T) {
	for _, last := range []Vector{{7, 8, 9}, {7, 8}} {
		l := []Vector{roomy(Vector{1, 2, 3}), roomy(Vector{4, 5, 6}), roomy(last)}
		given := slices.Clone(l)
		same := keep(l...)
		Sum(l...)
		if !same() {
			t.Error("Sum changed a vector")
		}
		for i := range l {
			if len(l[i]) != len(given[i]) || &l[i][0] != &given[i][0] {
				t.Error("Sum changed the list of vectors")
			}
		}
	}
}

func TestSumIsNewMemory(t *testing.T) {
	for k := 1; k < 4; k++ {
		var l []Vector
		for j := range k {
			l = append(l, roomy(mixed(5, uint64(j))))
		}
		one, _ := Sum(l...)
		two, _ := Sum(l...)
		if !apart(one, two) || !apart(one, l...) {
			t.Errorf("the sum of %d vectors shares memory", k)
		}
	}
}

func TestAddOfKnownVectors(t *testing.T) {
	for i, c := range []struct{ v, w, want Vector }{
		{nil, nil, nil},
		{nil, Vector{}, nil},
		{Vector{}, nil, nil},
		{Vector{1, 2}, Vector{10, 20}, Vector{11, 22}},
		{Vector{5, -6}, Vector{-5, 6}, Vector{0, 0}},
		{Vector{top, low, top, low}, Vector{1, -1, top, low}, Vector{low, top, -2, 0}},
	} {
		same := keep(c.w)
		if !c.v.Add(c.w) || !slices.Equal(c.v, c.want) {
			t.Errorf("%d: Add gives %d, want %d", i, c.v, c.want)
		}
		if !same() {
			t.Errorf("%d: Add changed the vector that it added", i)
		}
	}
}

func TestAddAddsEveryElement(t *testing.T) {
	for n := range 40 {
		v, w := mixed(n, 1), mixed(n, 2)
		was := slices.Clone(v)
		if !v.Add(w) {
			t.Fatalf("Add of %d elements is false", n)
		}
		for i := range v {
			if want := plus(i, was, w); v[i] != want {
				t.Errorf("Add of %d elements has %d at %d, want %d", n, v[i], i, want)
			}
		}
	}
}

func TestAddOfDifferentLengths(t *testing.T) {
	for i, c := range []struct{ v, w Vector }{
		{nil, Vector{1}},
		{Vector{1}, nil},
		{Vector{1, 2}, Vector{3}},
		{Vector{1}, Vector{2, 3}},
		{roomy(Vector{1, 2}), Vector{3, 4, 5}},
		{Vector{1, 2, 3}, roomy(Vector{4, 5})},
	} {
		same := keep(c.v, c.w)
		if c.v.Add(c.w) {
			t.Errorf("%d: Add is true", i)
		}
		if !same() {
			t.Errorf("%d: Add changed a vector", i)
		}
	}
}

func TestAddStaysWithinTheVector(t *testing.T) {
	v, w := roomy(Vector{1, 2}), roomy(Vector{3, 4})
	same := keep(w)
	if !v.Add(w) || !slices.Equal(v[:cap(v)][:5], Vector{4, 6, 71, 72, 73}) {
		t.Errorf("Add gives %d", v[:cap(v)])
	}
	if !same() {
		t.Error("Add changed the vector that it added")
	}
}

func TestAddToItself(t *testing.T) {
	v := edges()
	was := slices.Clone(v)
	if !v.Add(v) {
		t.Fatal("Add is false")
	}
	for i := range v {
		if want := plus(i, was, was); v[i] != want {
			t.Errorf("twice %d is %d, want %d", was[i], v[i], want)
		}
	}
}

func TestAddOfOverlappingVectors(t *testing.T) {
	for _, c := range []struct{ v, w int }{{1, 0}, {0, 1}, {2, 0}, {0, 2}} {
		all := Vector{1, 10, 100, 1000, 10000}
		was := slices.Clone(all)
		v, w := all[c.v:c.v+3], all[c.w:c.w+3]
		if !v.Add(w) {
			t.Fatal("Add is false")
		}
		for i := range v {
			if want := was[c.v+i] + was[c.w+i]; v[i] != want {
				t.Errorf("%d and %d: element %d is %d, want %d", c.v, c.w, i, v[i], want)
			}
		}
	}
}

// P3.2

func TestScaleOfKnownVectors(t *testing.T) {
	for i, c := range []struct {
		v    Vector
		a    int64
		q    int
		want Vector
	}{
		{nil, 3, 1, nil},
		{Vector{}, 3, 1, nil},
		{Vector{1, -2, 3}, 5, 0, Vector{5, -10, 15}},
		{Vector{3, -3, 1, -1}, 1, 1, Vector{1, -2, 0, -1}},
		{Vector{3, -3, 1, -1}, -1, 1, Vector{-2, 1, -1, 0}},
		{Vector{low, top, 2}, 1 << 62, 62, Vector{low, top, 2}},
		{Vector{low, top}, low, 0, Vector{0, low}},
		{Vector{low}, low, 62, Vector{0}},
		{Vector{1, 2}, 0, 7, Vector{0, 0}},
		{Vector{4, 5}, 6, 63, Vector{0, 0}},
		{Vector{4, 5}, 6, -1, Vector{0, 0}},
	} {
		if got := Scale(c.v, c.a, c.q); !slices.Equal(got, c.want) {
			t.Errorf("%d: Scale(%d, %d, %d) = %d, want %d", i, c.v, c.a, c.q, got, c.want)
		}
	}
}

func TestScaleRoundsEveryProduct(t *testing.T) {
	v := append(edges(), mixed(20, 3)...)
	for _, a := range v {
		for _, q := range append([]int{0, 1, 2, 16, 31, 32, 33, 61, 62}, outside...) {
			got := Scale(v, a, q)
			if len(got) != len(v) {
				t.Fatalf("Scale of %d elements has %d", len(v), len(got))
			}
			for i, x := range v {
				if want := times(x, a, q); got[i] != want {
					t.Errorf("%d, scaled by %d with %d bits, is %d, want %d", x, a, q, got[i], want)
				}
			}
		}
	}
}

func TestScaleIsNewMemory(t *testing.T) {
	for _, a := range []int64{0, 1, 2} {
		v := roomy(Vector{1, 2, 3})
		same := keep(v)
		one, two := Scale(v, a, 0), Scale(v, a, 0)
		if !same() {
			t.Error("Scale changed its argument")
		}
		if !apart(one, two) || !apart(one, v) {
			t.Error("a scaled vector shares memory")
		}
	}
}

func TestDotOfKnownVectors(t *testing.T) {
	for i, c := range []struct {
		a, b Vector
		q    int
		want int64
	}{
		{nil, nil, 0, 0},
		{nil, Vector{}, 8, 0},
		{Vector{1, 2, 3}, Vector{4, 5, 6}, 0, 32},
		{Vector{1, 1}, Vector{1, 1}, 1, 0},    // each product is rounded, not their sum
		{Vector{-1, -1}, Vector{1, 1}, 1, -2}, // down
		{Vector{3, -3}, Vector{1, 1}, 1, -1},  // 1 and -2
		{Vector{low, 0}, Vector{-1, 7}, 0, low},
		{Vector{top, 1}, Vector{1, 1}, 0, low}, // the sum wraps around
		{Vector{low, low}, Vector{1, 1}, 0, 0},
		{Vector{low, low}, Vector{1 << 62, 1 << 62}, 62, 0},
		{Vector{4, 5}, Vector{6, 7}, 63, 0},
		{Vector{4, 5}, Vector{6, 7}, -1, 0},
	} {
		if got, ok := Dot(c.a, c.b, c.q); !ok || got != c.want {
			t.Errorf("%d: Dot(%d, %d, %d) = %d, %t, want %d, true", i, c.a, c.b, c.q, got, ok, c.want)
		}
	}
}

func TestDotSumsRoundedProducts(t *testing.T) {
	for n := range 30 {
		for _, q := range append([]int{0, 1, 2, 16, 31, 32, 33, 61, 62}, outside...) {
			a, b := mixed(n, 4), mixed(n, 5)
			z := new(big.Int)
			for i := range a {
				z.Add(z, number(times(a[i], b[i], q)))
			}
			want := int64(modulo(z))
			if got, ok := Dot(a, b, q); !ok || got != want {
				t.Errorf("Dot of %d elements with %d bits = %d, %t, want %d, true", n, q, got, ok, want)
			}
			if got, ok := Dot(b, a, q); !ok || got != want {
				t.Errorf("Dot of %d elements with %d bits, exchanged = %d, %t, want %d, true", n, q, got, ok, want)
			}
		}
	}
}

func TestDotOfAVectorWithItself(t *testing.T) {
	v := Vector{3, -4, 12}
	if got, ok := Dot(v, v, 0); !ok || got != 169 {
		t.Errorf("Dot = %d, %t, want 169, true", got, ok)
	}
}

func TestDotOfDifferentLengths(t *testing.T) {
	for _, q := range []int{0, 8, 62, 63, -1} {
		for i, c := range []struct{ a, b Vector }{
			{nil, Vector{1}},
			{Vector{1}, Vector{}},
			{Vector{1, 2}, Vector{3}},
			{Vector{1}, Vector{2, 3}},
			{Vector{1, 2, 3}, roomy(Vector{4, 5})},
			{roomy(Vector{4, 5}), Vector{1, 2, 3}},
		} {
			if got, ok := Dot(c.a, c.b, q); ok || got != 0 {
				t.Errorf("%d: Dot = %d, %t, want 0, false", i, got, ok)
			}
		}
	}
}

func TestDotKeepsItsArguments(t *testing.T) {
	a, b := roomy(Vector{1, 2, 3}), roomy(Vector{4, 5, 6})
	same := keep(a, b)
	Dot(a, b, 1)
	if !same() {
		t.Error("Dot changed an argument")
	}
}

// P3.3

func TestCloneIsACopy(t *testing.T) {
	for _, v := range samples() {
		if c := v.Clone(); !slices.Equal(c, v) {
			t.Errorf("the copy of %d is %d", v, c)
		}
	}
	v := roomy(edges())
	same := keep(v)
	one, two := v.Clone(), v.Clone()
	if !same() {
		t.Error("Clone changed its vector")
	}
	if !apart(one, two) || !apart(one, v) {
		t.Error("a copy shares memory")
	}
}

func TestCopyAndOriginalAreIndependent(t *testing.T) {
	v := Vector{1, 2, 3}
	c := v.Clone()
	v[0] = 9
	c[2] = 8
	if !slices.Equal(v, Vector{9, 2, 3}) || !slices.Equal(c, Vector{1, 2, 8}) {
		t.Errorf("the original is %d, the copy %d", v, c)
	}
}

func TestDifferOfKnownVectors(t *testing.T) {
	for i, c := range []struct {
		v, w Vector
		want int
	}{
		{nil, nil, -1},
		{nil, Vector{}, -1},
		{Vector{1, 2, 3}, Vector{1, 2, 3}, -1},
		{Vector{low, top}, Vector{low, top}, -1},
		{Vector{1, 2, 3}, Vector{4, 2, 3}, 0},
		{Vector{1, 2, 3}, Vector{1, 4, 3}, 1},
		{Vector{1, 2, 3}, Vector{1, 2, 4}, 2},
		{Vector{1, 2, 3}, Vector{1, 4, 5}, 1},
		{nil, Vector{0}, 0},
		{Vector{1, 2}, Vector{1, 2, 3}, 2},
		{Vector{1, 2}, Vector{1, 2, 0, 0}, 2},
		{Vector{1, 2}, Vector{1, 3, 0, 0}, 1},
		{Vector{top}, Vector{low}, 0},
		{Vector{1}, Vector{1 + 1<<32}, 0},
		{roomy(Vector{1, 2}), Vector{1, 2, 71}, 2},
		{roomy(Vector{1, 2}), append(roomy(Vector{1, 2}), 0)[:2], -1},
	} {
		same := keep(c.v, c.w)
		if got := c.v.Differ(c.w); got != c.want {
			t.Errorf("%d: Differ(%d, %d) = %d, want %d", i, c.v, c.w, got, c.want)
		}
		if got := c.w.Differ(c.v); got != c.want {
			t.Errorf("%d: Differ(%d, %d) = %d, want %d", i, c.w, c.v, got, c.want)
		}
		if got := c.v.Same(c.w); got != (c.want == -1) {
			t.Errorf("%d: Same(%d, %d) = %t", i, c.v, c.w, got)
		}
		if got := c.w.Same(c.v); got != (c.want == -1) {
			t.Errorf("%d: Same(%d, %d) = %t", i, c.w, c.v, got)
		}
		if !same() {
			t.Errorf("%d: comparing changed a vector", i)
		}
	}
}

func TestSameComparesElements(t *testing.T) {
	for _, v := range samples() {
		for _, w := range samples() {
			if got, want := v.Same(w), slices.Equal(v, w); got != want {
				t.Errorf("Same(%d, %d) = %t", v, w, got)
			}
		}
	}
}

func TestDifferFindsTheChange(t *testing.T) {
	v := mixed(30, 6)
	for i := range v {
		for _, d := range []int64{1, -1, low, top, 1 << 32} {
			w := v.Clone()
			w[i] += d
			w[len(w)-1] += d / 2 // a later difference changes nothing
			if got := v.Differ(w); got != i || v.Same(w) {
				t.Errorf("Differ = %d, want %d", got, i)
			}
		}
		if got := v.Differ(v[:i]); got != i || v.Same(v[:i]) {
			t.Errorf("Differ from the first %d elements = %d", i, got)
		}
		if got := v[:i].Differ(v); got != i || v[:i].Same(v) {
			t.Errorf("Differ of the first %d elements = %d", i, got)
		}
	}
}

// P3.4

func TestHashOfKnownVectors(t *testing.T) {
	const m = uint64(1099511628211)
	for i, c := range []struct {
		v    Vector
		want uint64
	}{
		{nil, 1},
		{Vector{}, 1},
		{Vector{0}, m},
		{Vector{-1}, 0},
		{Vector{1}, 2 * m},
		{Vector{-2}, 1<<64 - 1099511628211},
		{Vector{-1, 5}, 5 * m},
		{roomy(Vector{-1, 5}), 5 * m},
	} {
		same := keep(c.v)
		if got := c.v.Hash(); got != c.want {
			t.Errorf("%d: the hash of %d is %d, want %d", i, c.v, got, c.want)
		}
		if !same() {
			t.Errorf("%d: Hash changed its vector", i)
		}
	}
}

func TestHashIsTheSumOfPowers(t *testing.T) {
	for _, v := range append(samples(), mixed(200, 7)) {
		if got, want := v.Hash(), hash(v); got != want {
			t.Errorf("the hash of %d is %d, want %d", v, got, want)
		}
	}
}

// P3.5

// orders yields every order of the indices from 0 to n-1.
func orders(n int, yield func([]int)) {
	var extend func(l []int)
	extend = func(l []int) {
		if len(l) == n {
			yield(l)
			return
		}
		for i := range n {
			if !slices.Contains(l, i) {
				extend(append(slices.Clone(l), i))
			}
		}
	}
	extend(nil)
}

func TestSumDependsOnNoOrder(t *testing.T) {
	l := []Vector{edges(), mixed(15, 8), mixed(15, 9), mixed(15, 10)}
	want, ok := Sum(l...)
	if !ok {
		t.Fatal("Sum is false")
	}
	orders(len(l), func(order []int) {
		var other []Vector
		for _, i := range order {
			other = append(other, l[i])
		}
		if got, ok := Sum(other...); !ok || !got.Same(want) {
			t.Errorf("the sum in the order %d is %d, want %d", order, got, want)
		}
		added := make(Vector, 15)
		for _, v := range other {
			if !added.Add(v) {
				t.Fatal("Add is false")
			}
		}
		if !added.Same(want) {
			t.Errorf("the vectors, added in the order %d, are %d, want %d", order, added, want)
		}
	})
}

func TestSumDependsOnNoGroups(t *testing.T) {
	l := []Vector{edges(), mixed(15, 11), mixed(15, 12), mixed(15, 13), mixed(15, 14)}
	want, _ := Sum(l...)
	for i := 1; i < len(l); i++ {
		left, _ := Sum(l[:i]...)
		right, _ := Sum(l[i:]...)
		if got, ok := Sum(left, right); !ok || !got.Same(want) {
			t.Errorf("the sum of the first %d and the others is %d, want %d", i, got, want)
		}
	}
}

func TestHashOfAChangedElementIsAnother(t *testing.T) {
	for _, v := range append(samples(), mixed(100, 15)) {
		was := v.Hash()
		for i, x := range v {
			for _, d := range []int64{1, -1, 2, low, top, 1 << 32, 1 << 62, 1099511628211} {
				v[i] = x + d
				if v.Hash() == was {
					t.Errorf("adding %d to element %d of %d changes no hash", d, i, len(v))
				}
			}
			v[i] = x
		}
	}
}
