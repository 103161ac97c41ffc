package sgd

import (
	"math"
	"math/big"
	"slices"
	"sync"
	"testing"

	"sakia/part"
	"sakia/vec"
)

const (
	top = math.MaxInt64
	low = math.MinInt64
)

// factors has what a Rate and a Momentum may be: small numbers, and the edges of int64.
var factors = []int64{0, 1, -1, 2, -3, 7, 1 << 31, -1 << 32, low, low + 1, top - 1, top}

// shifts has numbers of fraction bits.
var shifts = []int{0, 1, 2, 8, 31, 32, 33, 61, 62}

// wrongShifts has numbers that are none of fraction bits.
var wrongShifts = []int{-1, -2, -62, -64, 63, 64, 65, 126, 127, 128, 1 << 32, 1<<32 + 8, -1 << 32, math.MinInt, math.MinInt + 1, math.MaxInt - 1, math.MaxInt}

// rules returns rules with all factors and all shifts, also wrong ones.
func rules() []Rule {
	var l []Rule
	for _, rate := range factors {
		for _, momentum := range factors {
			for _, q := range append(slices.Clone(shifts), wrongShifts...) {
				l = append(l, Rule{rate, momentum, q})
			}
		}
	}
	return l
}

// fewRules returns some rules of different kinds.
func fewRules() []Rule {
	return []Rule{{1, 1, 1}, {1, 1, 0}, {3, -5, 2}, {0, 7, 1}, {7, 0, 1}, {-1, 1, 0}, {1 << 40, -3 << 50, 33}, {low, low, 62}, {top, low, 0}, {low, top, 31}, {5, 3, -1}, {5, 3, 63}}
}

// times returns a·b, divided by 2^q and rounded down; it may not fit into an int64. It is 0 for another q than 0 to 62.
func times(a, b int64, q int) *big.Int {
	if q < 0 || q > 62 {
		return new(big.Int)
	}
	z := new(big.Int).Mul(big.NewInt(a), big.NewInt(b))
	d := new(big.Int).Lsh(big.NewInt(1), uint(q))
	return z.Div(z, d) // Div rounds down for a positive divisor
}

// wrap returns an integer modulo 2^64.
func wrap(z *big.Int) int64 {
	return int64(new(big.Int).And(z, new(big.Int).SetUint64(math.MaxUint64)).Uint64())
}

// after returns what a parameter and its momentum are after a step, by the chapter's words.
func after(r Rule, p, m, g int64) (param, momentum int64) {
	momentum = wrap(new(big.Int).Add(times(r.Momentum, m, r.Shift), big.NewInt(g)))
	param = wrap(new(big.Int).Sub(big.NewInt(p), times(r.Rate, momentum, r.Shift)))
	return param, momentum
}

// model returns the state after a step, number by number.
func model(r Rule, s State, g vec.Vector) State {
	var next State
	for i := range g {
		p, m := after(r, s.P[i], s.M[i], g[i])
		next.P, next.M = append(next.P, p), append(next.M, m)
	}
	return next
}

// mixed returns n numbers of all sizes.
func mixed(n int, seed uint64) vec.Vector {
	v := vec.Vector{}
	for range n {
		seed = seed*6364136223846793005 + 1442695040888963407
		v = append(v, int64(seed)>>(seed>>40%61))
	}
	return v
}

// small returns n numbers from -limit to limit.
func small(n int, seed uint64, limit int64) vec.Vector {
	v := mixed(n, seed)
	for i, a := range v {
		v[i] = a % (limit + 1)
	}
	return v
}

// some returns a state with n parameters, all of whose numbers are different from 0.
func some(n int, seed uint64) State {
	s := State{mixed(n, seed), mixed(n, seed+1000)}
	for i := range n {
		s.P[i] |= 1
		s.M[i] |= 1
	}
	return s
}

// triples returns a state and a gradient with all combinations of some numbers.
func triples(numbers ...int64) (s State, g vec.Vector) {
	for _, p := range numbers {
		for _, m := range numbers {
			for _, d := range numbers {
				s.P, s.M, g = append(s.P, p), append(s.M, m), append(g, d)
			}
		}
	}
	return s, g
}

// lengths has numbers of parameters.
var lengths = []int{0, 1, 2, 3, 4, 5, 7, 8, 16, 33, 100}

// vectors returns vectors of all kinds.
func vectors() []vec.Vector {
	l := []vec.Vector{nil, {}, make(vec.Vector, 0, 5), factors, {0, 0, 0}, {low, low}, {top, top}}
	for _, a := range factors {
		l = append(l, vec.Vector{a})
	}
	for _, n := range lengths {
		l = append(l, mixed(n, 1), small(n, 2, 9))
	}
	return l
}

// crooked returns states that do not have as many parameters as momenta.
func crooked() []State {
	var l []State
	for _, n := range []int{0, 1, 2, 3, 8} {
		for _, m := range []int{0, 1, 2, 3, 4, 7, 9, 16} {
			if n != m {
				l = append(l, State{mixed(n, 3), mixed(m, 4)})
			}
		}
	}
	return append(l, State{nil, vec.Vector{1}}, State{vec.Vector{1}, nil})
}

// right returns states that have as many parameters as momenta.
func right() []State {
	l := []State{{}, {vec.Vector{}, nil}, {nil, vec.Vector{}}, {vec.Vector{}, vec.Vector{}}}
	for _, n := range lengths {
		l = append(l, some(n, 5), State{mixed(n, 6), make(vec.Vector, n)}, State{slices.Repeat(vec.Vector{low}, n), slices.Repeat(vec.Vector{top}, n)})
	}
	return l
}

// roomy returns a copy with other numbers in its memory beyond its length.
func roomy(v vec.Vector) vec.Vector {
	return append(slices.Clip(slices.Clone(v)), 91, 92, 93, 94)[:len(v)]
}

// roomyState returns a copy of a state whose vectors are roomy.
func roomyState(s State) State { return State{roomy(s.P), roomy(s.M)} }

// memory returns all memory of vectors, also beyond their lengths.
func memory(l ...vec.Vector) []vec.Vector {
	var all []vec.Vector
	for _, v := range l {
		all = append(all, v[:cap(v)])
	}
	return all
}

// parts returns the vectors of states.
func parts(l ...State) []vec.Vector {
	var all []vec.Vector
	for _, s := range l {
		all = append(all, s.P, s.M)
	}
	return all
}

// keep returns a function that reports whether all memory of vectors is still as it is now.
func keep(l ...vec.Vector) func() bool {
	var was []vec.Vector
	for _, v := range memory(l...) {
		was = append(was, slices.Clone(v))
	}
	return func() bool {
		return slices.EqualFunc(memory(l...), was, func(v, w vec.Vector) bool { return slices.Equal(v, w) })
	}
}

// spoil changes all memory of a vector.
func spoil(v vec.Vector) {
	for i := range v[:cap(v)] {
		v[:cap(v)][i] ^= 0x155
	}
}

// apart reports whether each vector stays as it is when another one is changed or lengthened.
func apart(l ...vec.Vector) bool {
	for i, v := range l {
		same := keep(slices.Concat(l[:i], l[i+1:])...)
		longer := append(v, 70, 71)
		spoil(longer)
		spoil(v)
		if !same() {
			return false
		}
	}
	return true
}

// equal compares states number by number.
func equal(a, b State) bool { return slices.Equal(a.P, b.P) && slices.Equal(a.M, b.M) }

func checkState(t *testing.T, what string, got, want State) {
	t.Helper()
	if !equal(got, want) {
		t.Fatalf("%s is %d, want %d", what, got, want)
	}
}

// checkNext tests a step that there is.
func checkNext(t *testing.T, r Rule, s State, g vec.Vector, want State) {
	t.Helper()
	if got, ok := r.Next(s, g); !ok || !equal(got, want) {
		t.Fatalf("%+v.Next(%d, %d) = %d, %t, want %d, true", r, s, g, got, ok, want)
	}
}

// checkNoNext tests a step that there is not.
func checkNoNext(t *testing.T, r Rule, s State, g vec.Vector) {
	t.Helper()
	if got, ok := r.Next(s, g); ok || len(got.P) != 0 || len(got.M) != 0 {
		t.Fatalf("%+v.Next(%d, %d) = %d, %t, want a zero State, false", r, s, g, got, ok)
	}
}

// within reports whether a range lies within n indices: it is one of those that do.
func within(at part.Range, n int) bool {
	for lo := 0; lo <= n; lo++ {
		for hi := lo; hi <= n; hi++ {
			if at == (part.Range{Lo: lo, Hi: hi}) {
				return true
			}
		}
	}
	return false
}

// checkApply tests a call of Apply, with all memory of its arguments, and returns the state that it makes.
func checkApply(t *testing.T, r Rule, s State, at part.Range, g vec.Vector) State {
	t.Helper()
	given, gradient := roomyState(s), roomy(g)
	want := State{slices.Clone(given.P[:cap(given.P)]), slices.Clone(given.M[:cap(given.M)])}
	fits := len(s.P) == len(s.M) && within(at, len(s.P)) && at.Lo+len(g) == at.Hi
	if fits {
		for k, d := range g {
			i := at.Lo + k
			want.P[i], want.M[i] = after(r, s.P[i], s.M[i], d)
		}
	}
	same := keep(gradient)
	got := r.Apply(given, at, gradient)
	if got != fits {
		t.Fatalf("%+v.Apply(%d, %d, %d) = %t, want %t", r, s, at, g, got, fits)
	}
	checkState(t, "the memory of the state after Apply", State{given.P[:cap(given.P)], given.M[:cap(given.M)]}, want)
	if !same() {
		t.Fatalf("Apply changed the gradient to %d, from %d", gradient, g)
	}
	return given
}

// checkRun tests Run, and returns the states.
func checkRun(t *testing.T, r Rule, s State, l []vec.Vector) []State {
	t.Helper()
	got, ok := r.Run(s, l...)
	if !ok || len(got) != len(l) {
		t.Fatalf("%+v.Run(%d, %d) = %d, %t, want %d states, true", r, s, l, got, ok, len(l))
	}
	for k, g := range l {
		s = model(r, s, g)
		checkState(t, "a state of Run", got[k], s)
	}
	return got
}

// checkNoRun tests a call of Run that fails.
func checkNoRun(t *testing.T, r Rule, s State, l []vec.Vector) {
	t.Helper()
	if got, ok := r.Run(s, l...); ok || len(got) != 0 {
		t.Fatalf("%+v.Run(%d, %d) = %d, %t, want nothing, false", r, s, l, got, ok)
	}
}

// gradients returns count gradients of n elements.
func gradients(count, n int) []vec.Vector {
	l := []vec.Vector{}
	for k := range count {
		l = append(l, roomy(mixed(n, uint64(20+k))))
	}
	return l
}

// wrongLengths returns lengths that are not n.
func wrongLengths(n int) []int {
	var l []int
	for _, m := range []int{0, 1, 2, 3, n - 2, n - 1, n + 1, n + 2, 2 * n, 3*n + 1, n + 256, n + 1<<16} {
		if m >= 0 && m != n {
			l = append(l, m)
		}
	}
	return l
}

// P13.1

func TestStart(t *testing.T) {
	for _, p := range vectors() {
		checkState(t, "the state at first", Start(p), State{p, make(vec.Vector, len(p))})
		checkState(t, "the state at first", Start(roomy(p)), State{p, make(vec.Vector, len(p))})
	}
}

func TestStartIsACopy(t *testing.T) {
	for _, v := range vectors() {
		p := roomy(v)
		same := keep(p)
		s := Start(p)
		if !same() {
			t.Errorf("Start changed the parameters to %d, from %d", p, v)
		}
		spoil(p)
		checkState(t, "after a change of the parameters, the state", s, State{v, make(vec.Vector, len(v))})
		if !apart(p, s.P, s.M) {
			t.Errorf("the state of %d shares memory", v)
		}
	}
}

func TestSameOfKnownStates(t *testing.T) {
	type v = vec.Vector
	for i, c := range []struct {
		a, b State
		want bool
	}{
		{State{}, State{}, true},
		{State{}, State{v{}, v{}}, true},
		{State{nil, v{}}, State{v{}, nil}, true},
		{State{make(v, 0, 9), nil}, State{}, true},
		{State{v{1}, v{2}}, State{v{1}, v{2}}, true},
		{State{v{1}, v{2}}, State{v{2}, v{1}}, false},
		{State{v{1}, v{2}}, State{v{1}, v{3}}, false},
		{State{v{1}, v{2}}, State{v{3}, v{2}}, false},
		{State{v{0}, v{0}}, State{}, false},
		{State{v{0}, nil}, State{}, false},
		{State{nil, v{0}}, State{}, false},
		{State{nil, v{0}}, State{v{0}, nil}, false},
		{State{nil, v{0}}, State{v{}, v{0}}, true},
		{State{v{0}, nil}, State{v{0}, v{}}, true},
		{State{v{1, 2}, v{3}}, State{v{1, 2}, v{3}}, true},
		{State{v{1, 2}, v{3}}, State{v{1}, v{2, 3}}, false},
		{State{v{1, 2}, v{3, 4}}, State{v{1, 2}, v{3}}, false},
		{State{v{1, 2}, v{3, 4}}, State{v{1}, v{3, 4}}, false},
		{State{v{1, 2}, v{3, 4}}, State{v{2, 1}, v{3, 4}}, false},
		{State{v{1, 2}, v{3, 4}}, State{v{1, 2}, v{4, 3}}, false},
		{State{v{low, top}, v{-1, 1}}, State{v{low, top}, v{-1, 1}}, true},
		{State{v{low}, v{0}}, State{v{0}, v{0}}, false},
		{State{v{1 << 32}, v{0}}, State{v{0}, v{1 << 32}}, false},
	} {
		if Same(c.a, c.b) != c.want || Same(c.b, c.a) != c.want {
			t.Errorf("%d: Same(%d, %d) is not %t", i, c.a, c.b, c.want)
		}
	}
}

func TestSameOfCopies(t *testing.T) {
	for _, s := range append(right(), crooked()...) {
		other := roomyState(s)
		if !Same(s, s) || !Same(s, other) || !Same(other, s) {
			t.Errorf("%d is not the same as itself", s)
		}
	}
}

// changes returns copies of a vector in which one number, or the length, is another one.
func changes(v vec.Vector) []vec.Vector {
	var l []vec.Vector
	for i := range v {
		for _, d := range []int64{1, -1, 2, 1 << 31, 1 << 32, 1 << 40, low} {
			w := slices.Clone(v)
			w[i] += d
			l = append(l, w)
		}
		l = append(l, roomy(v)[:i])
	}
	for _, a := range []int64{0, 1, -1, 91, low} {
		l = append(l, append(slices.Clip(v), a))
	}
	return append(l, append(slices.Clip(v), v...), append(vec.Vector{0}, v...))
}

func TestSameFindsEveryDifference(t *testing.T) {
	for _, s := range append(right(), crooked()...) {
		var others []State
		for _, w := range changes(s.P) {
			if !slices.Equal(w, s.P) {
				others = append(others, State{w, s.M})
			}
		}
		for _, w := range changes(s.M) {
			if !slices.Equal(w, s.M) {
				others = append(others, State{s.P, w})
			}
		}
		for _, other := range others {
			if Same(s, other) || Same(other, s) {
				t.Fatalf("%d and %d are the same", s, other)
			}
		}
	}
}

func TestClone(t *testing.T) {
	for _, s := range append(right(), crooked()...) {
		given := roomyState(s)
		same := keep(parts(given)...)
		c := Clone(given)
		checkState(t, "a copy", c, s)
		if !same() {
			t.Errorf("Clone changed the state %d to %d", s, given)
		}
		for _, v := range parts(given) {
			spoil(v)
		}
		checkState(t, "after a change of the state, the copy", c, s)
		if !apart(parts(given, c)...) {
			t.Errorf("the copy of %d shares memory", s)
		}
	}
}

func TestCloneOfAStateWhoseVectorsAreInOneMemory(t *testing.T) {
	v := mixed(9, 8)
	for _, s := range []State{{v, v}, {v[:5], v[4:]}, {v[3:], v[:6]}, {v[:4:4], v[4:8]}} {
		was := State{slices.Clone(s.P), slices.Clone(s.M)}
		c := Clone(s)
		checkState(t, "a copy", c, was)
		if !apart(c.P, c.M) || !apart(c.P, v) || !apart(c.M, v) {
			t.Errorf("the copy of %d shares memory", was)
		}
	}
}

// P13.2

func TestKnownSteps(t *testing.T) {
	type v = vec.Vector
	for _, c := range []struct {
		r    Rule
		s    State
		g    v
		want State
	}{
		{Rule{1, 1, 1}, State{v{10}, v{4}}, v{2}, State{v{8}, v{4}}},
		{Rule{0, 0, 0}, State{v{10}, v{4}}, v{2}, State{v{10}, v{2}}},
		{Rule{1, 0, 0}, State{v{10}, v{4}}, v{2}, State{v{8}, v{2}}},
		{Rule{0, 1, 0}, State{v{10}, v{4}}, v{2}, State{v{10}, v{6}}},
		{Rule{1, 1, 0}, State{v{10}, v{4}}, v{2}, State{v{4}, v{6}}},
		{Rule{-1, -1, 0}, State{v{10}, v{4}}, v{2}, State{v{8}, v{-2}}},
		{Rule{1, 1, 0}, State{v{1, 2, 3}, v{10, 20, 30}}, v{100, 200, 300}, State{v{-109, -218, -327}, v{110, 220, 330}}},
		{Rule{3, 5, 2}, State{v{7, 7}, v{3, -3}}, v{0, 0}, State{v{5, 10}, v{3, -4}}},
		{Rule{1, 1, 1}, State{v{0, 0}, v{-1, -3}}, v{0, 0}, State{v{1, 1}, v{-1, -2}}},
		{Rule{1, 0, 1}, State{v{0, 0}, v{0, 0}}, v{-1, 1}, State{v{1, 0}, v{-1, 1}}},
		{Rule{1, 1, 62}, State{v{0, 0, 0}, v{-1, 1, top}}, v{0, 0, 0}, State{v{1, 0, 0}, v{-1, 0, 1}}},
		{Rule{1, 1, 0}, State{v{0}, v{top}}, v{1}, State{v{low}, v{low}}},
		{Rule{1, 1, 0}, State{v{low}, v{0}}, v{1}, State{v{top}, v{1}}},
		{Rule{-1, 1, 0}, State{v{top}, v{0}}, v{1}, State{v{low}, v{1}}},
		{Rule{1, low, 0}, State{v{5}, v{low}}, v{3}, State{v{2}, v{3}}},
		{Rule{1, low, 62}, State{v{5}, v{low}}, v{3}, State{v{5}, v{3}}}, // 2^126 / 2^62 is 2^64
		{Rule{0, top, 62}, State{v{5}, v{top}}, v{3}, State{v{5}, v{-1}}},
		{Rule{0, top, 0}, State{v{5}, v{top}}, v{3}, State{v{5}, v{4}}},
		{Rule{9, 9, 63}, State{v{5}, v{6}}, v{7}, State{v{5}, v{7}}},
		{Rule{9, 9, -1}, State{v{5}, v{6}}, v{7}, State{v{5}, v{7}}},
		{Rule{9, 9, math.MaxInt}, State{v{5}, v{6}}, v{7}, State{v{5}, v{7}}},
		{Rule{9, 9, math.MinInt}, State{v{5}, v{6}}, v{7}, State{v{5}, v{7}}},
		{Rule{9, 9, 1}, State{}, nil, State{}},
		{Rule{9, 9, 1}, State{v{}, nil}, v{}, State{}},
		{Rule{9, 9, 1}, State{nil, v{}}, nil, State{}},
	} {
		checkNext(t, c.r, c.s, c.g, c.want)
	}
}

func TestNextOfAllRules(t *testing.T) {
	s, g := triples(0, 1, -1, 3, -5, low, low+1, top)
	for _, r := range rules() {
		checkNext(t, r, s, g, model(r, s, g))
	}
}

func TestNextOfMixedNumbers(t *testing.T) {
	factors := mixed(60, 30)
	for i, rate := range factors {
		r := Rule{rate, factors[len(factors)-1-i], i + 1}
		for _, n := range lengths {
			s, g := some(n, uint64(i)), mixed(n, uint64(i+500))
			checkNext(t, r, s, g, model(r, s, g))
		}
	}
}

func TestNextOfManyParameters(t *testing.T) {
	for _, n := range []int{255, 256, 257, 1<<16 - 1, 1<<16 + 1} {
		s, g := some(n, 1), mixed(n, 2)
		r := Rule{3 << 30, -5 << 29, 31}
		checkNext(t, r, s, g, model(r, s, g))
		checkNoNext(t, r, s, g[1:])
		checkNoNext(t, r, s, append(g, 0))
	}
}

func TestNextOfAllLengths(t *testing.T) {
	for n := range 5 {
		for m := range 5 {
			for k := range 5 {
				s, g := State{roomy(mixed(n, 1)), roomy(mixed(m, 2))}, roomy(mixed(k, 3))
				for _, r := range fewRules() {
					if n == m && m == k {
						checkNext(t, r, s, g, model(r, s, g))
					} else {
						checkNoNext(t, r, s, g)
					}
				}
			}
		}
	}
}

func TestNextOfOneLengthThatIsWrong(t *testing.T) {
	r := Rule{1, 1, 1}
	for _, n := range lengths {
		for _, m := range wrongLengths(n) {
			right, wrong := mixed(n, 1), mixed(m, 2)
			for _, other := range []vec.Vector{wrong, roomy(wrong)} {
				checkNoNext(t, r, State{right, right}, other)
				checkNoNext(t, r, State{right, other}, right)
				checkNoNext(t, r, State{other, right}, right)
			}
		}
		if n > 0 {
			checkNoNext(t, r, some(n, 1), nil)
			checkNoNext(t, r, State{nil, mixed(n, 1)}, mixed(n, 2))
			checkNoNext(t, r, State{mixed(n, 1), nil}, mixed(n, 2))
		}
	}
}

func TestTheMomentumComesBeforeTheParameter(t *testing.T) {
	for _, n := range lengths {
		s, g := State{mixed(n, 1), make(vec.Vector, n)}, mixed(n, 2)
		next, ok := Rule{1, 0, 0}.Next(s, g)
		if !ok || !slices.Equal(next.M, g) {
			t.Fatalf("Next = %d, %t", next, ok)
		}
		for i, p := range next.P {
			if p != s.P[i]-g[i] {
				t.Errorf("the parameter %d is %d, after the gradient %d, from %d", i, p, g[i], s.P[i])
			}
		}
	}
}

func TestNextChangesNothing(t *testing.T) {
	for _, r := range fewRules() {
		for _, n := range lengths {
			for _, k := range append(wrongLengths(n), n) {
				s, g := roomyState(some(n, 1)), roomy(mixed(k, 2))
				same := keep(s.P, s.M, g)
				r.Next(s, g)
				r.Next(State{g, s.M}, s.P)
				r.Next(State{s.M, g}, g)
				if !same() {
					t.Fatalf("Next changed the state or the gradient to %d, %d", s, g)
				}
			}
		}
	}
}

func TestNextSharesNoMemory(t *testing.T) {
	for _, r := range fewRules() {
		for _, n := range lengths {
			s, g := roomyState(some(n, 1)), roomy(mixed(n, 2))
			want := model(r, s, g)
			next, _ := r.Next(s, g)
			again, _ := r.Next(s, g)
			for _, v := range []vec.Vector{s.P, s.M, g, again.P, again.M} {
				spoil(v)
				checkState(t, "after a change of something else, the next state", next, want)
			}
			if !apart(s.P, s.M, g, next.P, next.M, again.P, again.M) {
				t.Fatalf("%+v.Next shares memory", r)
			}
		}
	}
}

func TestNextOfVectorsInOneMemory(t *testing.T) {
	for _, r := range fewRules() {
		v := mixed(9, 3)
		for _, c := range [][3]vec.Vector{{v, v, v}, {v[:5], v[:5], v[4:]}, {v[:5], v[4:], v[:5]}, {v[4:], v[:5], v[:5]}, {v[:5], v[2:7], v[4:]}, {v[4:], v[2:7], v[:5]}} {
			s, g := State{c[0], c[1]}, c[2]
			want := model(r, s, g)
			same := keep(v)
			next, ok := r.Next(s, g)
			if !ok || !equal(next, want) || !same() {
				t.Fatalf("Next = %d, %t, want %d, true", next, ok, want)
			}
			if !apart(next.P, next.M) || !apart(next.P, v) || !apart(next.M, v) {
				t.Fatal("Next shares memory")
			}
		}
	}
}

// P13.3

func TestKnownUpdates(t *testing.T) {
	type v = vec.Vector
	for _, c := range []struct {
		r      Rule
		lo, hi int
		g      v
		p, m   v
		ok     bool
	}{
		{Rule{1, 1, 1}, 0, 3, v{2, 2, 2}, v{8, 17, 25}, v{4, 7, 10}, true},
		{Rule{1, 1, 1}, 0, 1, v{2}, v{8, 20, 30}, v{4, 10, 16}, true},
		{Rule{1, 1, 1}, 1, 2, v{2}, v{10, 17, 30}, v{4, 7, 16}, true},
		{Rule{1, 1, 1}, 2, 3, v{2}, v{10, 20, 25}, v{4, 10, 10}, true},
		{Rule{1, 1, 1}, 1, 3, v{2, -8}, v{10, 17, 30}, v{4, 7, 0}, true},
		{Rule{0, 1, 0}, 0, 2, v{100, 200}, v{10, 20, 30}, v{104, 210, 16}, true},
		{Rule{1, 1, 1}, 0, 0, nil, v{10, 20, 30}, v{4, 10, 16}, true},
		{Rule{1, 1, 1}, 1, 1, v{}, v{10, 20, 30}, v{4, 10, 16}, true},
		{Rule{1, 1, 1}, 3, 3, nil, v{10, 20, 30}, v{4, 10, 16}, true},
		{Rule{1, 1, 1}, 4, 4, nil, v{10, 20, 30}, v{4, 10, 16}, false},
		{Rule{1, 1, 1}, -1, -1, nil, v{10, 20, 30}, v{4, 10, 16}, false},
		{Rule{1, 1, 1}, -1, 0, v{2}, v{10, 20, 30}, v{4, 10, 16}, false},
		{Rule{1, 1, 1}, 2, 4, v{2, 2}, v{10, 20, 30}, v{4, 10, 16}, false},
		{Rule{1, 1, 1}, 2, 1, v{2}, v{10, 20, 30}, v{4, 10, 16}, false},
		{Rule{1, 1, 1}, 2, 1, nil, v{10, 20, 30}, v{4, 10, 16}, false},
		{Rule{1, 1, 1}, 3, 0, nil, v{10, 20, 30}, v{4, 10, 16}, false},
		{Rule{1, 1, 1}, 0, 3, v{2, 2}, v{10, 20, 30}, v{4, 10, 16}, false},
		{Rule{1, 1, 1}, 0, 3, v{2, 2, 2, 2}, v{10, 20, 30}, v{4, 10, 16}, false},
		{Rule{1, 1, 1}, 0, 1, v{2, 2, 2}, v{10, 20, 30}, v{4, 10, 16}, false},
		{Rule{1, 1, 1}, 1, 2, nil, v{10, 20, 30}, v{4, 10, 16}, false},
		{Rule{1, 1, 1}, 1, 1, v{2}, v{10, 20, 30}, v{4, 10, 16}, false},
	} {
		s := State{v{10, 20, 30}, v{4, 10, 16}}
		ok := c.r.Apply(s, part.Range{Lo: c.lo, Hi: c.hi}, c.g)
		if ok != c.ok || !equal(s, State{c.p, c.m}) {
			t.Errorf("%+v.Apply from %d to %d of %d = %t, with the state %d, want %t, %d, %d", c.r, c.lo, c.hi, c.g, ok, s, c.ok, c.p, c.m)
		}
	}
}

// bounds returns what Lo and Hi may be, for n parameters.
func bounds(n int) []int {
	l := []int{math.MinInt, math.MinInt + 1, math.MinInt + 2, -1 << 32, -3, -2, -1, n + 3, 1 << 32, 1<<32 + 1, math.MaxInt - 1, math.MaxInt}
	for i := range n + 3 {
		l = append(l, i)
	}
	return l
}

func TestApplyAtAllRanges(t *testing.T) {
	r := Rule{3, -5, 1}
	for n := range 7 {
		s := some(n, uint64(n))
		for _, lo := range bounds(n) {
			for _, hi := range bounds(n) {
				for k := range n + 4 {
					checkApply(t, r, s, part.Range{Lo: lo, Hi: hi}, mixed(k, 9))
				}
				checkApply(t, r, s, part.Range{Lo: lo, Hi: hi}, nil)
			}
		}
	}
}

func TestApplyOfAllRules(t *testing.T) {
	s, g := triples(0, 1, -1, -5, low, top)
	n := len(g)
	for i, r := range rules() {
		lo, hi := i%n, n-i%7
		if hi < lo {
			lo, hi = hi, lo
		}
		for _, at := range []part.Range{{Lo: 0, Hi: n}, {Lo: lo, Hi: hi}} {
			checkApply(t, r, s, at, g[at.Lo:at.Hi])
		}
		checkApply(t, r, s, part.Range{Lo: lo, Hi: hi}, g[lo:])
		checkApply(t, r, s, part.Range{Lo: -1, Hi: n - 1}, g)
		checkApply(t, r, s, part.Range{Lo: 1, Hi: n + 1}, g)
	}
}

func TestApplyToAStateWhoseLengthsDiffer(t *testing.T) {
	for _, r := range fewRules() {
		for _, s := range crooked() {
			n, m := len(s.P), len(s.M)
			for _, at := range []part.Range{{}, {Lo: 0, Hi: n}, {Lo: 0, Hi: m}, {Lo: 0, Hi: 1}, {Lo: min(n, m), Hi: max(n, m)}, {Lo: min(n, m), Hi: min(n, m)}, {Lo: n, Hi: n}, {Lo: m, Hi: m}} {
				for _, k := range []int{0, 1, max(0, at.Hi-at.Lo), n, m} {
					checkApply(t, r, s, at, mixed(k, 5))
				}
			}
		}
	}
}

func TestApplyDoesNotGoBeyondTheLengths(t *testing.T) {
	r := Rule{1, 1, 0}
	p, m := mixed(9, 1), mixed(9, 2)
	same := keep(p, m)
	for _, c := range []struct{ p, m, lo, hi int }{{4, 4, 4, 5}, {4, 4, 0, 5}, {4, 4, 0, 9}, {4, 4, 8, 9}, {4, 9, 0, 9}, {9, 4, 0, 9}, {9, 4, 0, 4}, {4, 9, 0, 4}, {0, 0, 0, 1}, {0, 0, 0, 9}, {4, 4, 5, 5}, {4, 4, 9, 9}} {
		if r.Apply(State{p[:c.p], m[:c.m]}, part.Range{Lo: c.lo, Hi: c.hi}, mixed(c.hi-c.lo, 3)) || !same() {
			t.Errorf("Apply at %d to %d, with %d parameters and %d momenta: %d, %d", c.lo, c.hi, c.p, c.m, p, m)
		}
	}
	g := mixed(9, 3)
	for _, k := range []int{0, 1, 3} {
		if r.Apply(State{p, m}, part.Range{Lo: 2, Hi: 6}, g[:k]) || !same() {
			t.Errorf("Apply took %d elements for 4: %d, %d", k, p, m)
		}
	}
}

func TestApplyToNoParameters(t *testing.T) {
	for _, r := range fewRules() {
		for _, s := range []State{{}, {vec.Vector{}, vec.Vector{}}, {nil, vec.Vector{}}, {vec.Vector{}, nil}, {make(vec.Vector, 0, 3), make(vec.Vector, 0, 3)}} {
			for _, g := range []vec.Vector{nil, {}, make(vec.Vector, 0, 3)} {
				if !r.Apply(s, part.Range{}, g) || len(s.P) != 0 || len(s.M) != 0 {
					t.Errorf("Apply to no parameters is false, or makes some: %d", s)
				}
				for _, at := range []part.Range{{Lo: 0, Hi: 1}, {Lo: 1, Hi: 1}, {Lo: -1, Hi: 0}, {Lo: -1, Hi: -1}, {Lo: 1, Hi: 0}, {Lo: 0, Hi: -1}} {
					if r.Apply(s, at, g) {
						t.Errorf("Apply to no parameters, at %d, is true", at)
					}
				}
			}
			if r.Apply(s, part.Range{}, vec.Vector{1}) {
				t.Error("Apply of an element to no parameters is true")
			}
		}
	}
}

func TestApplyManyTimes(t *testing.T) {
	for _, r := range fewRules() {
		s := State{mixed(10, 1), mixed(10, 2)}
		for k := range 40 {
			lo := k * 7 % 11
			hi := lo + k*3%(11-lo)
			s = checkApply(t, r, s, part.Range{Lo: lo, Hi: hi}, mixed(hi-lo, uint64(k)))
			s = checkApply(t, r, s, part.Range{Lo: lo, Hi: hi + 11}, mixed(hi-lo+11, uint64(k)))
		}
	}
}

func TestApplyOfAGradientInTheMemoryOfTheState(t *testing.T) {
	for _, r := range fewRules() {
		for _, at := range []part.Range{{Lo: 0, Hi: 9}, {Lo: 2, Hi: 6}, {Lo: 0, Hi: 4}, {Lo: 5, Hi: 9}, {Lo: 3, Hi: 4}} {
			size := at.Hi - at.Lo
			for from := range 10 - size {
				for side := range 2 {
					s := some(9, 7)
					g := parts(s)[side][from : from+size]
					inside := model(r, State{slices.Clone(s.P[at.Lo:at.Hi]), slices.Clone(s.M[at.Lo:at.Hi])}, g)
					want := Clone(s)
					copy(want.P[at.Lo:], inside.P)
					copy(want.M[at.Lo:], inside.M)
					if !r.Apply(s, at, g) || !equal(s, want) {
						t.Fatalf("Apply at %d, of a gradient of the state itself: %d, want %d", at, s, want)
					}
				}
			}
		}
	}
}

func TestApplyKeepsNothing(t *testing.T) {
	for _, r := range fewRules() {
		s, g := some(8, 1), mixed(5, 2)
		other := Clone(s)
		r.Apply(s, part.Range{Lo: 2, Hi: 7}, g)
		r.Apply(other, part.Range{Lo: 2, Hi: 7}, g)
		checkState(t, "another state", other, s)
		want := Clone(s)
		spoil(g)
		checkState(t, "after a change of the gradient, the state", s, want)
		if !apart(s.P, s.M, g, other.P, other.M) {
			t.Error("a state shares memory after Apply")
		}
	}
}

// P13.4

func TestKnownRuns(t *testing.T) {
	type v = vec.Vector
	for _, c := range []struct {
		r    Rule
		l    []v
		want []State
	}{
		{Rule{1, 1, 0}, []v{{1}}, []State{{v{99}, v{1}}}},
		{Rule{1, 1, 0}, []v{{1}, {1}, {1}, {0}}, []State{{v{99}, v{1}}, {v{97}, v{2}}, {v{94}, v{3}}, {v{91}, v{3}}}},
		{Rule{1, 0, 0}, []v{{1}, {2}, {3}}, []State{{v{99}, v{1}}, {v{97}, v{2}}, {v{94}, v{3}}}},
		{Rule{1, -1, 0}, []v{{5}, {5}, {0}}, []State{{v{95}, v{5}}, {v{95}, v{0}}, {v{95}, v{0}}}},
		{Rule{1, 1, 1}, []v{{8}, {0}, {0}, {0}, {0}}, []State{{v{96}, v{8}}, {v{94}, v{4}}, {v{93}, v{2}}, {v{93}, v{1}}, {v{93}, v{0}}}},
		{Rule{1, 1, 1}, []v{{-8}, {0}, {0}, {0}, {0}}, []State{{v{104}, v{-8}}, {v{106}, v{-4}}, {v{107}, v{-2}}, {v{108}, v{-1}}, {v{109}, v{-1}}}},
	} {
		got, ok := c.r.Run(Start(v{100}), c.l...)
		if !ok || !slices.EqualFunc(got, c.want, equal) {
			t.Errorf("%+v.Run(%d) = %d, %t, want %d, true", c.r, c.l, got, ok, c.want)
		}
	}
}

func TestRunOfNoGradients(t *testing.T) {
	for _, r := range fewRules() {
		for _, s := range append(right(), crooked()...) {
			for _, l := range [][]vec.Vector{nil, {}, make([]vec.Vector, 0, 3)} {
				if got, ok := r.Run(s, l...); len(got) != 0 || !ok {
					t.Errorf("Run of no gradients = %d, %t, want nothing, true", got, ok)
				}
			}
		}
	}
}

func TestRunOfSomeGradients(t *testing.T) {
	for _, r := range fewRules() {
		for _, s := range right() {
			for _, count := range []int{1, 2, 3, 4, 9} {
				checkRun(t, r, s, gradients(count, len(s.P)))
			}
		}
	}
}

func TestRunOfAllRules(t *testing.T) {
	s, g := triples(0, 1, -1, low, top)
	for _, r := range rules() {
		checkRun(t, r, s, []vec.Vector{g, g, s.P, s.M})
	}
}

func TestRunOfManyGradients(t *testing.T) {
	for _, r := range fewRules() {
		checkRun(t, r, some(3, 1), gradients(1000, 3))
	}
	r := Rule{1, 1, 0}
	l := slices.Repeat([]vec.Vector{{1}}, 1<<14)
	got, ok := r.Run(Start(vec.Vector{0}), l...)
	if n := int64(len(l)); !ok || len(got) != len(l) || !equal(got[n-1], State{vec.Vector{-n * (n + 1) / 2}, vec.Vector{n}}) {
		t.Errorf("Run of %d gradients: %d states, %t", len(l), len(got), ok)
	}
}

func TestRunOfNoParameters(t *testing.T) {
	for _, s := range right()[:4] {
		got, ok := Rule{1, 1, 1}.Run(s, nil, vec.Vector{}, nil)
		if !ok || !slices.EqualFunc(got, make([]State, 3), equal) {
			t.Errorf("Run without parameters = %d, %t, want 3 empty states, true", got, ok)
		}
		checkNoRun(t, Rule{1, 1, 1}, s, []vec.Vector{nil, {1}, nil})
	}
}

func TestRunOfAGradientWithTheWrongLength(t *testing.T) {
	for _, r := range fewRules()[:3] {
		for _, n := range lengths {
			for _, m := range wrongLengths(n) {
				for _, count := range []int{1, 2, 5} {
					for k := range count {
						l := gradients(count, n)
						l[k] = roomy(mixed(m, 1))
						checkNoRun(t, r, some(n, 2), l)
					}
				}
			}
			if n > 0 {
				checkNoRun(t, r, some(n, 2), []vec.Vector{mixed(n, 1), nil})
				checkNoRun(t, r, some(n, 2), []vec.Vector{nil, mixed(n, 1)})
				checkNoRun(t, r, some(n, 2), []vec.Vector{mixed(n, 1), mixed(n+1, 1), mixed(n-1, 1)})
			}
		}
	}
}

func TestRunOfAStateWhoseLengthsDiffer(t *testing.T) {
	for _, r := range fewRules() {
		for _, s := range crooked() {
			for _, n := range []int{len(s.P), len(s.M), 0, 1} {
				checkNoRun(t, r, s, gradients(1, n))
				checkNoRun(t, r, s, gradients(3, n))
			}
		}
	}
}

func TestRunChangesNothing(t *testing.T) {
	for _, r := range fewRules() {
		for _, n := range lengths {
			for _, last := range []int{n, n + 1} {
				s := roomyState(some(n, 1))
				l := append(gradients(3, n), roomy(mixed(last, 4)))
				given := slices.Clone(l)
				same := keep(append(slices.Clone(l), s.P, s.M)...)
				r.Run(s, l...)
				if !same() {
					t.Fatalf("Run changed the state or a gradient: %d, %d", s, l)
				}
				for k, g := range l {
					if len(g) != len(given[k]) || cap(g) != cap(given[k]) || len(g) > 0 && &g[0] != &given[k][0] {
						t.Fatalf("Run changed the list of gradients at %d", k)
					}
				}
			}
		}
	}
}

func TestRunSharesNoMemory(t *testing.T) {
	for _, r := range fewRules() {
		for _, n := range lengths {
			s, l := roomyState(some(n, 1)), gradients(4, n)
			l = append(l, l[0], s.M)
			got := checkRun(t, r, s, l)
			again := checkRun(t, r, s, l)
			for _, v := range append(slices.Clone(l), s.P, s.M) {
				spoil(v)
			}
			clear(l)
			if !slices.EqualFunc(got, again, equal) {
				t.Fatal("a change of the arguments changes a state of Run")
			}
			if !apart(slices.Concat(parts(s), parts(got...), parts(again...))...) {
				t.Fatalf("%+v.Run shares memory", r)
			}
		}
	}
}

func TestStatesWithTheSameNumbersShareNoMemory(t *testing.T) {
	r := Rule{0, 8, 3} // 8 is 1, with 3 fraction bits, so nothing changes without a gradient
	for _, n := range lengths {
		s, zeros := roomyState(some(n, 1)), make(vec.Vector, n)
		got := checkRun(t, r, s, []vec.Vector{zeros, zeros, zeros})
		if !equal(got[2], s) || !apart(append(parts(got...), s.P, s.M, zeros)...) {
			t.Fatalf("the states after %d, %d, share memory", s, got)
		}
		got = checkRun(t, Rule{0, 0, 0}, State{zeros, zeros}, []vec.Vector{zeros, zeros})
		if !apart(append(parts(got...), zeros)...) {
			t.Fatalf("the states of zeros, %d, share memory", got)
		}
	}
}

func TestAChangedStateOfRunChangesNoOther(t *testing.T) {
	r := Rule{3, 2, 1}
	want := checkRun(t, r, some(5, 1), gradients(4, 5))
	for k := range want {
		for side := range 2 {
			got := checkRun(t, r, some(5, 1), gradients(4, 5))
			spoil(append(parts(got[k])[side], 7))
			spoil(parts(got[k])[side])
			if side == 0 {
				got[k].P = want[k].P
			} else {
				got[k].M = want[k].M
			}
			if !slices.EqualFunc(got, want, equal) {
				t.Errorf("a change of the state %d makes %d, want %d", k, got, want)
			}
		}
	}
}

func TestRunIsOneStepAfterTheOther(t *testing.T) {
	for _, r := range fewRules() {
		for _, n := range lengths {
			s, l := some(n, 1), gradients(5, n)
			states, ok := r.Run(s, l...)
			if !ok {
				t.Fatal("no states")
			}
			for k, g := range l {
				next, _ := r.Next(s, g)
				checkState(t, "a state of Run", states[k], next)
				rest, _ := r.Run(next, l[k+1:]...)
				if !slices.EqualFunc(rest, states[k+1:], equal) {
					t.Fatalf("Run from the state %d on = %d, want %d", k, rest, states[k+1:])
				}
				s = next
			}
		}
	}
}

// P13.5

// orders returns all orders of the numbers 0 to n - 1.
func orders(n int) [][]int {
	if n == 0 {
		return [][]int{nil}
	}
	var l [][]int
	for _, order := range orders(n - 1) {
		for i := range n {
			l = append(l, slices.Insert(slices.Clone(order), i, n-1))
		}
	}
	return l
}

// mixedOrders returns some orders of many numbers: as they are, backwards, and two others.
func mixedOrders(n int) [][]int {
	var ahead, turned, ends []int
	for i := range n {
		ahead = append(ahead, i)
		turned = append(turned, (i+n/2)%n)
		if i%2 == 0 {
			ends = append(ends, i/2)
		} else {
			ends = append(ends, n-1-i/2)
		}
	}
	back := slices.Clone(ahead)
	slices.Reverse(back)
	return [][]int{ahead, back, turned, ends}
}

// checkParts tests that Apply with the parts of a gradient makes the state that Next returns.
func checkParts(t *testing.T, r Rule, n int, ranges []part.Range, order []int) {
	t.Helper()
	s, g := some(n, 1), mixed(n, 2)
	want, ok := r.Next(s, g)
	for _, k := range order {
		at := ranges[k]
		ok = r.Apply(s, at, g[at.Lo:at.Hi]) && ok
	}
	if !ok || !equal(s, want) {
		t.Fatalf("%+v.Apply at %d in the order %d makes %d, %t, want %d, true", r, ranges, order, s, ok, want)
	}
}

func TestApplyWithAllPartsIsNext(t *testing.T) {
	for _, r := range fewRules() {
		for n := range 8 {
			for k := 1; k < 6; k++ {
				for _, order := range orders(k) {
					checkParts(t, r, n, part.Even(n, k), order)
				}
			}
		}
	}
}

func TestApplyWithManyPartsIsNext(t *testing.T) {
	for _, r := range fewRules() {
		for _, n := range lengths {
			for _, size := range []int{1, 2, 3, 7, 64, 100, 1000} {
				ranges := part.Blocks(n, size)
				for _, order := range mixedOrders(len(ranges)) {
					checkParts(t, r, n, ranges, order)
				}
			}
		}
	}
}

func TestApplyWithEmptyPartsIsNext(t *testing.T) {
	ranges := []part.Range{{}, {Lo: 0, Hi: 3}, {Lo: 3, Hi: 3}, {Lo: 3, Hi: 4}, {Lo: 2, Hi: 2}, {Lo: 4, Hi: 9}, {Lo: 9, Hi: 9}}
	for _, r := range fewRules() {
		for _, order := range append(mixedOrders(len(ranges)), orders(len(ranges))[100:200]...) {
			checkParts(t, r, 9, ranges, order)
		}
	}
}

func TestApplyWithTheWholeIsNext(t *testing.T) {
	for _, r := range fewRules() {
		for _, s := range right() {
			g := mixed(len(s.P), 3)
			want, _ := r.Next(s, g)
			if !r.Apply(s, part.Range{Lo: 0, Hi: len(g)}, g) || !equal(s, want) {
				t.Fatalf("Apply with the whole gradient makes %d, want %d", s, want)
			}
		}
	}
}

// All of it

func TestCallsDoNotDependOnOthers(t *testing.T) {
	r := Rule{3, -5, 2}
	s, l := some(6, 1), gradients(3, 6)
	want := checkRun(t, r, s, l)
	for _, other := range fewRules() {
		other.Run(s, l[2], l[1], nil)
		other.Next(State{s.M, s.P}, l[1])
		other.Apply(Clone(s), part.Range{Lo: 1, Hi: 4}, l[0][:3])
		Start(l[0])
		if got := checkRun(t, r, s, l); !slices.EqualFunc(got, want, equal) {
			t.Errorf("Run = %d, want %d", got, want)
		}
	}
	if r != (Rule{3, -5, 2}) {
		t.Errorf("the rule was changed to %+v", r)
	}
}

// TestCallsWithGoroutines is for go test -race: calls may write nothing but the state that Apply is given.
func TestCallsWithGoroutines(t *testing.T) {
	r := Rule{3, -5, 2}
	s, l := some(50, 1), gradients(4, 50)
	want := checkRun(t, r, s, l)
	var group sync.WaitGroup
	for range 8 {
		group.Go(func() {
			for range 20 {
				states, ok := r.Run(s, l...)
				next, is := r.Next(s, l[0])
				own := Clone(s)
				done := r.Apply(own, part.Range{Lo: 0, Hi: 50}, l[0])
				if !ok || !is || !done || !slices.EqualFunc(states, want, equal) || !Same(next, want[0]) || !Same(own, want[0]) {
					t.Error("another result with goroutines")
				}
			}
		})
	}
	group.Wait()
}
