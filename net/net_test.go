package net

import (
	"math"
	"math/big"
	"slices"
	"sync"
	"testing"

	"sakia/api"
	"sakia/shape"
	"sakia/vec"
)

const (
	top  = math.MaxInt64
	low  = math.MinInt64
	most = 1 << 20 // the most parameters
)

// shifts has numbers of fraction bits.
var shifts = []int{0, 1, 2, 8, 31, 32, 33, 61, 62}

// wrongShifts has numbers that are none of fraction bits.
var wrongShifts = []int{-1, -2, -62, 63, 64, 65, 126, 127, 128, 1 << 32, 1<<32 + 8, -1 << 32, 1 << 62, math.MinInt, math.MinInt + 1, math.MaxInt - 1, math.MaxInt}

// reckoning is all that the chapter says of a network and an example, reckoned number by number.
type reckoning struct {
	sums, values, errors [][]int64 // of each layer; the layer 0 has no sums and no errors
	loss                 int64
	gradient             []int64
}

// offsets returns the index of the first weight and of the first bias of each link.
func offsets(sizes []int) (weights, biases []int) {
	i := 0
	for k := range len(sizes) - 1 {
		weights = append(weights, i)
		i += sizes[k] * sizes[k+1]
		biases = append(biases, i)
		i += sizes[k+1]
	}
	return weights, biases
}

// count returns the number of parameters.
func count(sizes []int) int {
	n := 0
	for k := range len(sizes) - 1 {
		n += (sizes[k] + 1) * sizes[k+1]
	}
	return n
}

// product returns a·b/2^q, rounded down; it may not fit into an int64.
func product(a, b int64, q int) *big.Int {
	p := new(big.Int).Mul(big.NewInt(a), big.NewInt(b))
	return p.Rsh(p, uint(q))
}

// wrap returns an integer modulo 2^64.
func wrap(n *big.Int) int64 {
	return int64(new(big.Int).And(n, new(big.Int).SetUint64(math.MaxUint64)).Uint64())
}

// forward reckons the sums and the values.
func (r *reckoning) forward(sizes []int, p []int64, q int, x []int64) {
	r.sums, r.values = [][]int64{nil}, [][]int64{x}
	weights, biases := offsets(sizes)
	for k := range len(sizes) - 1 {
		var sums, values []int64
		for row := range sizes[k+1] {
			z := big.NewInt(p[biases[k]+row])
			for col := range sizes[k] {
				z.Add(z, product(p[weights[k]+row*sizes[k]+col], r.values[k][col], q))
			}
			sum := wrap(z)
			sums = append(sums, sum)
			if k+2 < len(sizes) && sum < 0 {
				sum = 0
			}
			values = append(values, sum)
		}
		r.sums, r.values = append(r.sums, sums), append(r.values, values)
	}
}

// back reckons the errors.
func (r *reckoning) back(sizes []int, p []int64, q int, y []int64) {
	last := len(sizes) - 1
	weights, _ := offsets(sizes)
	r.errors = make([][]int64, len(sizes))
	for i, output := range r.values[last] {
		r.errors[last] = append(r.errors[last], wrap(new(big.Int).Sub(big.NewInt(output), big.NewInt(y[i]))))
	}
	for k := last - 1; k > 0; k-- {
		for col := range sizes[k] {
			e := new(big.Int)
			for row := range sizes[k+1] {
				if r.sums[k][col] > 0 {
					e.Add(e, product(p[weights[k]+row*sizes[k]+col], r.errors[k+1][row], q))
				}
			}
			r.errors[k] = append(r.errors[k], wrap(e))
		}
	}
}

// reckon reckons all of it.
func reckon(sizes []int, p []int64, q int, x, y []int64) *reckoning {
	r := &reckoning{}
	r.forward(sizes, p, q, x)
	r.back(sizes, p, q, y)
	loss := new(big.Int)
	for _, e := range r.errors[len(sizes)-1] {
		loss.Add(loss, product(e, e, q))
	}
	r.loss = wrap(loss)
	for k := range len(sizes) - 1 {
		for row := range sizes[k+1] {
			for col := range sizes[k] {
				r.gradient = append(r.gradient, wrap(product(r.errors[k+1][row], r.values[k][col], q)))
			}
		}
		r.gradient = append(r.gradient, r.errors[k+1]...)
	}
	return r
}

// mixed returns n numbers of all sizes, none of which is 0.
func mixed(n int, seed uint64) vec.Vector {
	var v vec.Vector
	for range n {
		seed = seed*6364136223846793005 + 1442695040888963407
		v = append(v, int64(seed)>>(seed>>40%59)|1)
	}
	return v
}

// small returns n numbers from -limit to limit.
func small(n int, seed uint64, limit int64) vec.Vector {
	v := mixed(n, seed)
	for i, a := range v {
		v[i] = a % (limit + 1)
	}
	return v
}

// edges returns n numbers at the edges of int64, and small ones.
func edges(n, from int) vec.Vector {
	l := vec.Vector{low, top, 1, -1, low + 1, 0, 2, -2, top - 1, 3, -3, 1 << 62, -1 << 62, 1 << 31, -1 << 32}
	v := make(vec.Vector, n)
	for i := range v {
		v[i] = l[(i+from)%len(l)]
	}
	return v
}

// vectors returns vectors of n numbers: small ones, all sizes, the edges of int64.
func vectors(n int) []vec.Vector {
	return []vec.Vector{
		small(n, 1, 9), small(n, 2, 300), mixed(n, 3), mixed(n, 4), edges(n, 0), edges(n, 7),
		make(vec.Vector, n), slices.Repeat(vec.Vector{low}, n), slices.Repeat(vec.Vector{top}, n), slices.Repeat(vec.Vector{1}, n),
	}
}

// layouts returns the sizes of small networks.
func layouts() [][]int {
	l := [][]int{
		{2, 3, 1}, {5, 4, 3, 2}, {1, 7, 1, 6}, {9, 1, 1, 8, 1}, {1, 30}, {30, 1}, {12, 13}, {4, 20, 3},
		slices.Repeat([]int{1}, api.MaxLayers), slices.Repeat([]int{3}, api.MaxLayers), {1, 2, 3, 4, 5, 6, 7, 8, 9, 8, 7, 6, 5, 4, 3, 2}, {2, 1, 2, 1, 2, 1, 2, 1, 2, 1, 2, 1, 2, 1, 2, 1},
	}
	for a := 1; a < 4; a++ {
		for b := 1; b < 4; b++ {
			l = append(l, []int{a, b})
			for c := 1; c < 4; c++ {
				l = append(l, []int{a, b, c})
			}
		}
	}
	return l
}

// laid returns the shape of some sizes.
func laid(t *testing.T, sizes ...int) *shape.Shape {
	t.Helper()
	s, code := shape.New(sizes...)
	if code != api.OK {
		t.Fatalf("the shape of %d: %v", sizes, code)
	}
	return s
}

// made returns a network.
func made(t *testing.T, sizes []int, p vec.Vector, q int) *Net {
	t.Helper()
	n, ok := New(laid(t, sizes...), p, q)
	if n == nil || !ok {
		t.Fatalf("New of %d with %d parameters, q = %d: %v, %t", sizes, len(p), q, n, ok)
	}
	return n
}

// each calls a function with networks of all kinds, and an example for each; the arguments are the function's own.
func each(t *testing.T, do func(sizes []int, p vec.Vector, q int, x, y vec.Vector)) {
	t.Helper()
	for i, sizes := range layouts() {
		last := len(sizes) - 1
		for j, p := range vectors(count(sizes)) {
			q := shifts[(i+j)%len(shifts)]
			for k, x := range vectors(sizes[0]) {
				ys := vectors(sizes[last])
				do(slices.Clone(sizes), p.Clone(), q, x, ys[(i+j+k)%len(ys)])
			}
		}
	}
}

// roomy returns a copy with other numbers in its memory beyond its length.
func roomy(v vec.Vector) vec.Vector { return append(v.Clone(), 91, 92, 93, 94)[:len(v)] }

// spoil changes the elements of a vector, and its memory beyond its length.
func spoil(v vec.Vector) {
	for i := range v[:cap(v)] {
		v[:cap(v)][i] = -77
	}
}

// checkValues tests Trace and Run.
func checkValues(t *testing.T, n *Net, x vec.Vector, want [][]int64) {
	t.Helper()
	values, ok := n.Trace(x)
	if !ok || len(values) != len(want) {
		t.Fatalf("Trace(%d) = %d, %t, want %d, true", x, values, ok, want)
	}
	for k, v := range values {
		if !slices.Equal(v, want[k]) {
			t.Fatalf("Trace(%d) has %d in the layer %d, want %d", x, v, k, want[k])
		}
	}
	if got, ok := n.Run(x); !ok || !slices.Equal(got, want[len(want)-1]) {
		t.Fatalf("Run(%d) = %d, %t, want %d, true", x, got, ok, want[len(want)-1])
	}
}

// checkExample tests Loss and Gradient.
func checkExample(t *testing.T, n *Net, x, y vec.Vector, loss int64, gradient []int64) {
	t.Helper()
	if got, ok := n.Loss(x, y); got != loss || !ok {
		t.Fatalf("Loss(%d, %d) = %d, %t, want %d, true", x, y, got, ok, loss)
	}
	if got, ok := n.Gradient(x, y); !slices.Equal(got, gradient) || !ok {
		t.Fatalf("Gradient(%d, %d) = %d, %t, want %d, true", x, y, got, ok, gradient)
	}
}

// checkAll tests all that a network says, against a reckoning.
func checkAll(t *testing.T, n *Net, sizes []int, p vec.Vector, q int, x, y vec.Vector) {
	t.Helper()
	r := reckon(sizes, p, q, x, y)
	checkValues(t, n, x, r.values)
	checkExample(t, n, x, y, r.loss, r.gradient)
	if got := n.Params(); !got.Same(p) {
		t.Fatalf("Params = %d, want %d", got, p)
	}
}

// checkNoNet tests a call of New that fails.
func checkNoNet(t *testing.T, s *shape.Shape, p vec.Vector, q int) {
	t.Helper()
	if n, ok := New(s, p, q); n != nil || ok {
		t.Errorf("New(%v, %d parameters, %d) = %v, %t, want nil, false", s, len(p), q, n, ok)
	}
}

// checkNoValues tests Trace and Run of inputs whose number is wrong.
func checkNoValues(t *testing.T, n *Net, x vec.Vector) {
	t.Helper()
	if got, ok := n.Trace(x); len(got) != 0 || ok {
		t.Errorf("Trace of %d inputs = %d, %t, want nothing, false", len(x), got, ok)
	}
	if got, ok := n.Run(x); len(got) != 0 || ok {
		t.Errorf("Run of %d inputs = %d, %t, want nothing, false", len(x), got, ok)
	}
}

// checkNoExample tests Loss and Gradient of an example that does not fit.
func checkNoExample(t *testing.T, n *Net, x, y vec.Vector) {
	t.Helper()
	if got, ok := n.Loss(x, y); got != 0 || ok {
		t.Errorf("Loss of %d inputs and %d wanted outputs = %d, %t, want 0, false", len(x), len(y), got, ok)
	}
	if got, ok := n.Gradient(x, y); len(got) != 0 || ok {
		t.Errorf("Gradient of %d inputs and %d wanted outputs = %d, %t, want nothing, false", len(x), len(y), got, ok)
	}
}

// numbers returns wrong numbers of elements, where n would be right.
func numbers(n int) []int {
	var l []int
	for _, m := range []int{0, 1, 2, 3, 4, 5, n - 1, n + 1, n - 2, n + 2, 2 * n, n + 256, 1 << 16, 1<<16 + n} {
		if m >= 0 && m != n {
			l = append(l, m)
		}
	}
	return l
}

// P9.1

func TestNewKeepsTheParameters(t *testing.T) {
	for _, sizes := range layouts() {
		for _, p := range vectors(count(sizes)) {
			for _, q := range shifts {
				if got := made(t, sizes, p, q).Params(); !got.Same(p) {
					t.Fatalf("Params = %d, want %d", got, p)
				}
			}
		}
	}
}

func TestNewOfANilShape(t *testing.T) {
	for _, n := range []int{0, 1, 2, 13, most} {
		for _, q := range append([]int{0, 8, 62}, wrongShifts...) {
			checkNoNet(t, nil, make(vec.Vector, n), q)
		}
	}
	checkNoNet(t, nil, nil, 0)
}

func TestNewOfAllNumbersOfFractionBits(t *testing.T) {
	s, p := laid(t, 2, 3, 1), mixed(13, 0)
	for q := -70; q < 140; q++ {
		if n, ok := New(s, p, q); (n != nil) != (q >= 0 && q <= 62) || ok != (n != nil) {
			t.Errorf("New with q = %d: %v, %t", q, n, ok)
		}
	}
	for _, q := range wrongShifts {
		checkNoNet(t, s, p, q)
		checkNoNet(t, s, p[1:], q)
		checkNoNet(t, s, nil, q)
	}
}

func TestNewOfTheWrongNumberOfParameters(t *testing.T) {
	for _, sizes := range layouts() {
		s, n := laid(t, sizes...), count(sizes)
		for _, m := range append(numbers(n), n-sizes[0], n-sizes[len(sizes)-1], n+sizes[0]) {
			checkNoNet(t, s, make(vec.Vector, m), 8)
			checkNoNet(t, s, roomy(make(vec.Vector, m)), 0)
		}
		checkNoNet(t, s, nil, 0)
		checkNoNet(t, s, make(vec.Vector, n+9)[:n-1], 8)
	}
}

func TestNewOfAsManyParametersAsThereMayBe(t *testing.T) {
	for _, sizes := range [][]int{{most - 1, 1}, {1, most / 2}, {1023, 1024}, {1, 349525, 1}} {
		p := small(most, 9, 50)
		checkNoNet(t, laid(t, sizes...), p[1:], 4)
		checkNoNet(t, laid(t, sizes...), append(p.Clone(), 0), 4)
		n := made(t, sizes, p, 4)
		checkAll(t, n, sizes, p, 4, small(sizes[0], 10, 50), small(sizes[len(sizes)-1], 11, 50))
	}
}

// P9.2

func TestValuesOfKnownNetworks(t *testing.T) {
	for _, c := range []struct {
		sizes []int
		p     vec.Vector
		q     int
		want  [][]int64
	}{
		{[]int{1, 1}, vec.Vector{3, 1}, 0, [][]int64{{2}, {7}}},
		{[]int{1, 1}, vec.Vector{-3, 1}, 0, [][]int64{{2}, {-5}}},
		{[]int{1, 1}, vec.Vector{3, 1}, 1, [][]int64{{-1}, {-1}}},
		{[]int{1, 1}, vec.Vector{3, 1}, 62, [][]int64{{-1}, {0}}},
		{[]int{2, 2}, vec.Vector{1, 2, 3, 4, 10, 20}, 0, [][]int64{{5, 6}, {27, 59}}},
		{[]int{1, 3, 1}, vec.Vector{1, 1, 1, -3, -2, -1, 100, 10, 1, -7}, 0, [][]int64{{2}, {0, 0, 1}, {-6}}},
		{[]int{1, 1, 1}, vec.Vector{-1, 0, 5, -3}, 0, [][]int64{{4}, {0}, {-3}}},
		{[]int{1, 1, 1, 1}, vec.Vector{1, 1, 2, -1, 3, 5}, 0, [][]int64{{3}, {4}, {7}, {26}}},
		{[]int{1, 1}, vec.Vector{1, top}, 0, [][]int64{{1}, {low}}},
		{[]int{1, 1, 1}, vec.Vector{1, top, 1, 6}, 0, [][]int64{{1}, {0}, {6}}},
		{[]int{1, 1, 1}, vec.Vector{1, low, 1, 0}, 0, [][]int64{{-1}, {top}, {top}}},
		{[]int{1, 1}, vec.Vector{low, 0}, 0, [][]int64{{low}, {0}}},
		{[]int{1, 1}, vec.Vector{low, 5}, 62, [][]int64{{low}, {5}}},
		{[]int{2, 1}, vec.Vector{1, 1, 0}, 1, [][]int64{{1, 1}, {0}}},
		{[]int{2, 1}, vec.Vector{-1, -1, 0}, 1, [][]int64{{1, 1}, {-2}}},
	} {
		checkValues(t, made(t, c.sizes, c.p, c.q), c.want[0], c.want)
	}
}

func TestValuesWithoutInfluence(t *testing.T) {
	for _, sizes := range layouts() {
		last := len(sizes) - 1
		_, biases := offsets(sizes)
		p := make(vec.Vector, count(sizes))
		for i := range p[biases[last-1]:] {
			p[biases[last-1]+i] = int64(i) - 1
		}
		n := made(t, sizes, p, 8)
		for _, x := range vectors(sizes[0]) {
			if got, ok := n.Run(x); !ok || !got.Same(p[biases[last-1]:]) {
				t.Errorf("Run with weights of 0 = %d, %t, want the biases %d", got, ok, p[biases[last-1]:])
			}
		}
	}
}

func TestValuesAgainstTheReckoning(t *testing.T) {
	each(t, func(sizes []int, p vec.Vector, q int, x, y vec.Vector) {
		checkValues(t, made(t, sizes, p, q), x, reckon(sizes, p, q, x, y).values)
	})
}

func TestValuesOfTheWrongNumberOfInputs(t *testing.T) {
	for _, sizes := range layouts() {
		n := made(t, sizes, mixed(count(sizes), 1), 8)
		for _, m := range append(numbers(sizes[0]), sizes...) {
			if m != sizes[0] {
				checkNoValues(t, n, make(vec.Vector, m))
				checkNoValues(t, n, roomy(mixed(m, 5)))
			}
		}
		checkNoValues(t, n, nil)
		checkNoValues(t, n, make(vec.Vector, sizes[0]+1, 2*sizes[0]+1)[:sizes[0]-1])
	}
}

// P9.3

func TestExamplesOfKnownNetworks(t *testing.T) {
	for _, c := range []struct {
		sizes    []int
		p        vec.Vector
		q        int
		x, y     vec.Vector
		loss     int64
		gradient []int64
	}{
		{[]int{1, 1}, vec.Vector{3, 1}, 0, vec.Vector{2}, vec.Vector{5}, 4, []int64{4, 2}},
		{[]int{1, 1}, vec.Vector{3, 1}, 0, vec.Vector{2}, vec.Vector{10}, 9, []int64{-6, -3}},
		{[]int{1, 1}, vec.Vector{3, 1}, 1, vec.Vector{-1}, vec.Vector{0}, 0, []int64{0, -1}},
		{[]int{1, 1}, vec.Vector{3, 1}, 1, vec.Vector{1}, vec.Vector{5}, 4, []int64{-2, -3}},
		{[]int{2, 2}, vec.Vector{1, 2, 3, 4, 10, 20}, 0, vec.Vector{5, 6}, vec.Vector{26, 61}, 5, []int64{5, 6, -10, -12, 1, -2}},
		// The sums of the layer 1 are -1, 0 and 1, so that only the last of its values has an error.
		{[]int{1, 3, 1}, vec.Vector{1, 1, 1, -3, -2, -1, 100, 10, 1, -7}, 0, vec.Vector{2}, vec.Vector{-8}, 4, []int64{0, 0, 4, 0, 0, 2, 0, 0, 2, 2}},
		// The outputs are 7 and 2, and the errors of the layer 1 are 3·1 - 1·5 and 3·2 - 1·6.
		{[]int{1, 2, 2}, vec.Vector{1, 1, 0, 0, 1, 2, 5, 6, 1, -20}, 0, vec.Vector{2}, vec.Vector{4, 3}, 10, []int64{-4, 0, -2, 0, 6, 6, -2, -2, 3, -1}},
		{[]int{1, 1, 1, 1}, vec.Vector{1, 1, 2, -1, 3, 5}, 0, vec.Vector{3}, vec.Vector{25}, 1, []int64{18, 6, 12, 3, 7, 1}},
		{[]int{1, 1, 1, 1}, vec.Vector{1, -3, 2, -1, 3, 5}, 0, vec.Vector{3}, vec.Vector{4}, 1, []int64{0, 0, 0, 0, 0, 1}},
		{[]int{1, 1}, vec.Vector{0, low}, 0, vec.Vector{3}, vec.Vector{1}, 1, []int64{-low - 3, top}},
		{[]int{1, 1}, vec.Vector{0, 0}, 62, vec.Vector{low}, vec.Vector{low}, 0, []int64{0, low}},
		{[]int{1, 1}, vec.Vector{0, 0}, 0, vec.Vector{1}, vec.Vector{1 << 32}, 0, []int64{-1 << 32, -1 << 32}},
	} {
		checkExample(t, made(t, c.sizes, c.p, c.q), c.x, c.y, c.loss, c.gradient)
	}
}

func TestExamplesAgainstTheReckoning(t *testing.T) {
	each(t, func(sizes []int, p vec.Vector, q int, x, y vec.Vector) {
		r := reckon(sizes, p, q, x, y)
		checkExample(t, made(t, sizes, p, q), x, y, r.loss, r.gradient)
	})
}

// TestReckoningsReachTheFirstLink is a test of the other tests: the networks' errors must not all be 0 before the first layers.
func TestReckoningsReachTheFirstLink(t *testing.T) {
	reached := map[int]int{}
	below, zero, above, outputs := 0, 0, 0, 0
	each(t, func(sizes []int, p vec.Vector, q int, x, y vec.Vector) {
		r := reckon(sizes, p, q, x, y)
		if slices.ContainsFunc(r.errors[1], func(e int64) bool { return e != 0 }) {
			reached[len(sizes)]++
		}
		for _, z := range slices.Concat(r.sums[1 : len(sizes)-1]...) {
			switch {
			case z < 0:
				below++
			case z == 0:
				zero++
			default:
				above++
			}
		}
		if slices.Min(r.values[len(sizes)-1]) < 0 {
			outputs++
		}
	})
	for _, layers := range []int{2, 3, 4, 5, 16} {
		if reached[layers] < 10 {
			t.Errorf("only %d networks of %d layers have errors in the layer 1", reached[layers], layers)
		}
	}
	if below < 1000 || zero < 1000 || above < 1000 || outputs < 1000 {
		t.Errorf("%d inner sums are below 0, %d are 0, %d above; %d outputs are below 0", below, zero, above, outputs)
	}
}

func TestExamplesWithPositiveWeights(t *testing.T) {
	for _, sizes := range layouts() {
		p := small(count(sizes), 3, 2)
		for i, a := range p {
			p[i] = max(a, -a) + 1
		}
		n := made(t, sizes, p, 0)
		for seed := range uint64(3) {
			checkAll(t, n, sizes, p, 0, slices.Repeat(vec.Vector{int64(seed)}, sizes[0]), small(sizes[len(sizes)-1], seed, 99))
		}
	}
}

func TestExamplesAroundTheGate(t *testing.T) {
	sizes := []int{2, 3, 2, 2}
	for i, size := range []int{-2, -1, 0, 1, 2, 3} {
		p := small(count(sizes), uint64(i), 4)
		for b := 6; b < 9; b++ {
			// With inputs of 0, the sums of the layer 1 are its biases.
			p[b] = int64(size + b - 7)
		}
		for _, q := range []int{0, 1, 2} {
			checkAll(t, made(t, sizes, p, q), sizes, p, q, vec.Vector{0, 0}, vec.Vector{-9, 9})
		}
	}
}

func TestGradientSaysHowTheLossChanges(t *testing.T) {
	// With q = 0, a parameter of the last link that is greater by 1 makes one output greater by the value before it (by 1 for a bias), so that the square of its error grows by twice the gradient plus the square of that value.
	sizes := []int{3, 4, 2}
	p, x, y := small(count(sizes), 1, 9), vec.Vector{4, -5, 6}, vec.Vector{3, -300}
	n := made(t, sizes, p, 0)
	before, _ := n.Loss(x, y)
	values, _ := n.Trace(x)
	gradient, _ := n.Gradient(x, y)
	for i := 16; i < 26; i++ {
		changed := p.Clone()
		changed[i]++
		after, _ := made(t, sizes, changed, 0).Loss(x, y)
		value := int64(1)
		if i < 24 {
			value = values[1][(i-16)%4]
		}
		if after-before != 2*gradient[i]+value*value {
			t.Errorf("the parameter %d changes the loss by %d, its gradient is %d", i, after-before, gradient[i])
		}
	}
}

func TestExamplesThatDoNotFit(t *testing.T) {
	for _, sizes := range layouts() {
		last := len(sizes) - 1
		n := made(t, sizes, mixed(count(sizes), 1), 8)
		x, y := mixed(sizes[0], 2), mixed(sizes[last], 3)
		for _, a := range append(numbers(sizes[0]), sizes...) {
			if a != sizes[0] {
				checkNoExample(t, n, mixed(a, 4), y)
				for _, b := range numbers(sizes[last])[:4] {
					checkNoExample(t, n, mixed(a, 4), mixed(b, 5))
				}
			}
		}
		for _, b := range append(numbers(sizes[last]), sizes...) {
			if b != sizes[last] {
				checkNoExample(t, n, x, roomy(mixed(b, 5)))
			}
		}
		checkNoExample(t, n, x, nil)
		checkNoExample(t, n, nil, y)
		checkNoExample(t, n, nil, nil)
		if sizes[0] != sizes[last] {
			checkNoExample(t, n, y, x)
		}
	}
}

// P9.4

func TestExamplesWhoseOutputsAreTheWantedOnes(t *testing.T) {
	each(t, func(sizes []int, p vec.Vector, q int, x, _ vec.Vector) {
		n := made(t, sizes, p, q)
		outputs, _ := n.Run(x)
		checkExample(t, n, x, outputs, 0, make([]int64, len(p)))
	})
}

func TestOneOutputThatIsNotTheWantedOne(t *testing.T) {
	for _, sizes := range layouts() {
		p := small(count(sizes), 6, 9)
		n := made(t, sizes, p, 0)
		x := small(sizes[0], 7, 9)
		_, biases := offsets(sizes)
		for i := range sizes[len(sizes)-1] {
			y, _ := n.Run(x)
			y[i] -= 3
			checkAll(t, n, sizes, p, 0, x, y)
			if g, ok := n.Gradient(x, y); !ok || g[biases[len(biases)-1]+i] != 3 {
				t.Errorf("the bias of an output with the error 3 has not the gradient 3: %d, %t", g, ok)
			}
		}
	}
}

// All of it

func TestNilNet(t *testing.T) {
	var n *Net
	for _, x := range []vec.Vector{nil, {}, {1}, {1, 2}} {
		checkNoValues(t, n, x)
		checkNoExample(t, n, x, nil)
		checkNoExample(t, n, nil, x)
		checkNoExample(t, n, x, x)
	}
	if got := n.Params(); len(got) != 0 {
		t.Errorf("Params of a nil Net = %d", got)
	}
}

func TestGivenVectorsMayBeChanged(t *testing.T) {
	for _, sizes := range layouts() {
		p, x, y := small(count(sizes), 1, 20), small(sizes[0], 2, 20), small(sizes[len(sizes)-1], 3, 20)
		given, inputs, wanted := roomy(p), roomy(x), roomy(y)
		n := made(t, sizes, given, 1)
		spoil(given)
		checkAll(t, n, sizes, p, 1, x, y)
		r := reckon(sizes, p, 1, x, y)
		values, _ := n.Trace(inputs)
		gradient, _ := n.Gradient(inputs, wanted)
		spoil(inputs)
		spoil(wanted)
		if !slices.Equal(values[0], r.values[0]) || !slices.Equal(gradient, r.gradient) {
			t.Errorf("a change of the inputs changes a result to %d, %d", values, gradient)
		}
		checkAll(t, n, sizes, p, 1, x, y)
	}
}

func TestReturnedVectorsMayBeChanged(t *testing.T) {
	for _, sizes := range layouts() {
		p, x, y := small(count(sizes), 1, 20), small(sizes[0], 2, 20), small(sizes[len(sizes)-1], 3, 20)
		n := made(t, sizes, p, 1)
		r := reckon(sizes, p, 1, x, y)
		for k := range sizes {
			values, _ := n.Trace(x)
			spoil(values[k])
			for j, v := range values {
				if j != k && !slices.Equal(v, r.values[j]) {
					t.Fatalf("a change of the layer %d changes the layer %d to %d", k, j, v)
				}
			}
			clear(values[:cap(values)])
			checkAll(t, n, sizes, p, 1, x, y)
		}
		params, outputs, gradient := n.Params(), first(n.Run(x)), first(n.Gradient(x, y))
		for _, v := range []vec.Vector{params, outputs, gradient} {
			spoil(v)
			checkAll(t, n, sizes, p, 1, x, y)
		}
	}
}

// first returns the first of two results.
func first(v vec.Vector, _ bool) vec.Vector { return v }

func TestResultsAreNewMemory(t *testing.T) {
	sizes := []int{2, 3, 1}
	p, x, y := roomy(small(13, 1, 20)), roomy(vec.Vector{3, 4}), roomy(vec.Vector{5})
	n := made(t, sizes, p, 1)
	r := reckon(sizes, p, 1, x, y)
	var all []vec.Vector
	var want [][]int64
	for range 2 {
		values, _ := n.Trace(x)
		all = append(append(all, values...), n.Params(), first(n.Run(x)), first(n.Gradient(x, y)))
		want = append(append(want, r.values...), slices.Clone(p), r.values[2], r.gradient)
	}
	for i, v := range all {
		spoil(v)
		for j, w := range all[i+1:] {
			if !slices.Equal(w, want[i+1+j]) {
				t.Errorf("a change of the result %d changes the result %d to %d", i, i+1+j, w)
			}
		}
	}
	if !slices.Equal(x, []int64{3, 4}) || !slices.Equal(y, []int64{5}) || !p.Same(small(13, 1, 20)) {
		t.Errorf("a change of results changes arguments to %d, %d, %d", p, x, y)
	}
}

func TestArgumentsAreNotChanged(t *testing.T) {
	each(t, func(sizes []int, p vec.Vector, q int, x, y vec.Vector) {
		for _, extra := range []int{0, 1} {
			given := []vec.Vector{roomy(p), roomy(append(x.Clone(), make(vec.Vector, extra)...)), roomy(y)}
			var was []vec.Vector
			for _, v := range given {
				was = append(was, v[:cap(v)].Clone())
			}
			n := made(t, sizes, given[0], q)
			New(laid(t, sizes...), given[0], -1)
			n.Trace(given[1])
			n.Run(given[1])
			n.Loss(given[1], given[2])
			n.Gradient(given[1], given[2])
			for i, v := range given {
				if !v[:cap(v)].Same(was[i]) {
					t.Fatalf("the argument %d was changed from %d to %d", i, was[i], v[:cap(v)])
				}
			}
		}
	})
}

func TestCallsChangeNothing(t *testing.T) {
	for _, sizes := range layouts() {
		p := mixed(count(sizes), 1)
		n := made(t, sizes, p, 30)
		for i, x := range vectors(sizes[0]) {
			y := vectors(sizes[len(sizes)-1])[i]
			n.Trace(nil)
			n.Run(append(x.Clone(), 1))
			n.Loss(x, append(y.Clone(), 1))
			n.Gradient(nil, y)
			checkAll(t, n, sizes, p, 30, x, y)
			checkAll(t, n, sizes, p, 30, x, y)
		}
	}
}

func TestNetworksAreIndependent(t *testing.T) {
	sizes := []int{2, 3, 1}
	s := laid(t, sizes...)
	p, x, y := small(13, 1, 20), vec.Vector{3, 4}, vec.Vector{5}
	other := small(13, 2, 20)
	var nets []*Net
	for _, c := range []struct {
		p vec.Vector
		q int
	}{{p, 0}, {p, 0}, {other, 0}, {p, 2}} {
		n, ok := New(s, c.p, c.q)
		if !ok {
			t.Fatal("no network")
		}
		nets = append(nets, n)
		clear(n.Params())
		spoil(first(n.Gradient(x, y)))
	}
	checkAll(t, nets[0], sizes, p, 0, x, y)
	checkAll(t, nets[1], sizes, p, 0, x, y)
	checkAll(t, nets[2], sizes, other, 0, x, y)
	checkAll(t, nets[3], sizes, p, 2, x, y)
	New(s, p[1:], 0)
	checkAll(t, nets[0], sizes, p, 0, x, y)
}

// TestCallsWithGoroutines is for go test -race: networks may share nothing that one of them writes, not even if they have the same shape.
func TestCallsWithGoroutines(t *testing.T) {
	sizes := []int{3, 5, 4, 2}
	s := laid(t, sizes...)
	p, x, y := small(count(sizes), 1, 90), small(3, 2, 90), small(2, 3, 90)
	r := reckon(sizes, p, 3, x, y)
	var group sync.WaitGroup
	for range 4 {
		group.Go(func() {
			n, ok := New(s, p, 3)
			if !ok {
				t.Error("no network")
				return
			}
			for range 20 {
				loss, _ := n.Loss(x, y)
				if g, ok := n.Gradient(x, y); !ok || !slices.Equal(g, r.gradient) || loss != r.loss || !n.Params().Same(p) {
					t.Errorf("Loss = %d, Gradient = %d, %t", loss, g, ok)
				}
				if v, ok := n.Trace(x); !ok || !slices.Equal(v[3], r.values[3]) || !first(n.Run(x)).Same(v[3]) {
					t.Errorf("Trace = %d, %t", v, ok)
				}
			}
		})
	}
	group.Wait()
}
