package draw

import (
	"math"
	"math/big"
	"slices"
	"sync"
	"testing"
)

const (
	top  = math.MaxInt
	low  = math.MinInt
	most = math.MaxUint64 // the greatest draw
)

// bad has numbers that are no bounds.
var bad = []int{0, -1, -2, -5, -1 << 32, -top, low}

// good returns bounds: the least ones, the greatest ones, and those around powers of 2.
func good() []int {
	l := []int{1, 2, 3, 4, 5, 7, 10, 64, 1000, 99991, top / 2, top - 2, top - 1, top}
	for _, k := range []int{8, 20, 31, 32, 33, 53, 62} {
		l = append(l, 1<<k-1, 1<<k, 1<<k+1)
	}
	return l
}

// samples returns draws: the least ones, the greatest ones, those around the greatest ints, and some with mixed bits.
func samples() []uint64 {
	l := []uint64{0, 1, 2, 3, 7, 9, 1 << 32, top - 1, top, top + 1, top + 2, most - 2, most - 1, most}
	x := uint64(0x9e3779b97f4a7c15)
	for range 20 {
		x ^= x << 13
		x ^= x >> 7
		x ^= x << 17
		l = append(l, x)
	}
	return l
}

// remainder returns the remainder of d after the division by n.
func remainder(d uint64, n int) int {
	z := new(big.Int).SetUint64(d)
	return int(z.Mod(z, big.NewInt(int64(n))).Int64())
}

// roomy returns a copy with other elements in its memory beyond its length.
func roomy[T any](other T, l ...T) []T {
	return append(slices.Clone(l), other, other, other)[:len(l)]
}

// stepped returns a stream of which some draws are used.
func stepped(used int, l ...uint64) *Stream {
	s := New(l...)
	for range used {
		s.Next(1)
	}
	return s
}

// rest returns what All yields.
func rest(s *Stream) (indices []int, draws []uint64) {
	for i, d := range s.All {
		indices, draws = append(indices, i), append(draws, d)
	}
	return indices, draws
}

// checkState tests that the first draws of a list are used, and that the others are left.
func checkState(t *testing.T, s *Stream, used int, l ...uint64) {
	t.Helper()
	if s.Used() != used || s.Left() != len(l)-used {
		t.Fatalf("Used() = %d and Left() = %d, want %d and %d", s.Used(), s.Left(), used, len(l)-used)
	}
	indices, draws := rest(s)
	if !slices.Equal(draws, l[used:]) {
		t.Fatalf("All yields the draws %d, want %d", draws, l[used:])
	}
	for k, i := range indices {
		if i != used+k {
			t.Fatalf("All yields the indices %d, want those from %d on", indices, used)
		}
	}
}

// checkNext tests that Next uses the draw d.
func checkNext(t *testing.T, s *Stream, n int, d uint64) {
	t.Helper()
	if got, ok := s.Next(n); got != remainder(d, n) || !ok {
		t.Fatalf("Next(%d) of the draw %d = %d, %t, want %d, true", n, d, got, ok, remainder(d, n))
	}
}

// checkNoNext tests that Next returns nothing.
func checkNoNext(t *testing.T, s *Stream, n int) {
	t.Helper()
	if got, ok := s.Next(n); got != 0 || ok {
		t.Fatalf("Next(%d) = %d, %t, want 0, false", n, got, ok)
	}
}

// checkMany tests that Many uses the draws d, which are as many as there are bounds.
func checkMany(t *testing.T, s *Stream, bounds []int, d ...uint64) {
	t.Helper()
	var want []int
	for i, n := range bounds {
		want = append(want, remainder(d[i], n))
	}
	if got, ok := s.Many(bounds...); !slices.Equal(got, want) || !ok {
		t.Fatalf("Many(%d) of the draws %d = %d, %t, want %d, true", bounds, d, got, ok, want)
	}
}

// checkNotMany tests that Many returns nothing.
func checkNotMany(t *testing.T, s *Stream, bounds ...int) {
	t.Helper()
	if got, ok := s.Many(bounds...); len(got) != 0 || ok {
		t.Fatalf("Many(%d) = %d, %t, want nothing and false", bounds, got, ok)
	}
}

// P5.1

func TestNewUsesNothing(t *testing.T) {
	l := samples()
	for n := range l {
		checkState(t, New(l[:n]...), 0, l[:n]...)
	}
	checkState(t, New(), 0)
	checkState(t, New([]uint64{}...), 0)
	checkState(t, New(roomy(5, l...)...), 0, l...)
}

func TestNextOfKnownDraws(t *testing.T) {
	for _, c := range []struct {
		d    uint64
		n    int
		want int
	}{
		{7, 5, 2},
		{9, 4, 1},
		{8, 4, 0},
		{3, 4, 3},
		{4, 4, 0},
		{0, 1, 0},
		{0, top, 0},
		{most, 1, 0},
		{most, 2, 1},
		{most, 3, 0},
		{most, 10, 5},
		{most, 1 << 32, 1<<32 - 1},
		{most, 1 << 62, 1<<62 - 1},
		{most, top, 1},
		{most, top - 1, 3},
		{most - 1, top, 0},
		{most - 2, top, top - 1},
		{1 << 63, 10, 8},
		{1 << 63, top, 1},
		{top, top, 0},
		{top - 1, top, top - 1},
	} {
		s := New(c.d)
		if got, ok := s.Next(c.n); got != c.want || !ok {
			t.Errorf("Next(%d) of the draw %d = %d, %t, want %d, true", c.n, c.d, got, ok, c.want)
		}
	}
}

func TestNextIsTheRemainder(t *testing.T) {
	l := samples()
	for _, n := range good() {
		s := New(l...)
		for i, d := range l {
			checkNext(t, s, n, d)
			checkState(t, s, i+1, l...)
		}
		checkNoNext(t, s, n)
		checkState(t, s, len(l), l...)
	}
}

func TestNextWithABoundForEachDraw(t *testing.T) {
	l, bounds := samples(), good()
	s := New(l...)
	for i, d := range l {
		checkNext(t, s, bounds[i*i%len(bounds)], d)
	}
	checkState(t, s, len(l), l...)
}

func TestNextOfBadBoundsUsesNothing(t *testing.T) {
	l := samples()
	s := New(l...)
	for i := range l {
		for _, n := range bad {
			checkNoNext(t, s, n)
			checkState(t, s, i, l...)
		}
		checkNext(t, s, 10, l[i])
	}
	for _, n := range bad {
		checkNoNext(t, s, n)
		checkState(t, s, len(l), l...)
	}
}

func TestNextWithoutDraws(t *testing.T) {
	l := []uint64{7, most}
	for _, n := range append(good(), bad...) {
		none, used := New(), stepped(2, l...)
		for range 3 {
			checkNoNext(t, none, n)
			checkNoNext(t, used, n)
		}
		checkState(t, none, 0)
		checkState(t, used, 2, l...)
	}
}

func TestChangedListsChangeNoStream(t *testing.T) {
	was := samples()
	for used := range len(was) + 1 {
		for _, l := range [][]uint64{slices.Clone(was), roomy(5, was...)} {
			s := New(l...)
			for i := range used {
				checkNext(t, s, 1000, was[i])
			}
			c := s.Clone()
			for i := range l {
				l[i] += 1234567
			}
			l = append(l, 1, 2)
			clear(l[:cap(l)])
			checkState(t, s, used, was...)
			checkState(t, c, used, was...)
			checkState(t, New(was...), 0, was...)
			for i := used; i < len(was); i++ {
				checkNext(t, s, 1000, was[i])
			}
			checkMany(t, c, slices.Repeat([]int{1000}, len(was)-used), was[used:]...)
		}
	}
}

func TestListsAreNotChanged(t *testing.T) {
	l := roomy(5, samples()...)
	whole := slices.Clone(l[:cap(l)])
	s := New(l...)
	c := s.Clone()
	for range l {
		s.Next(3)
	}
	c.Many(slices.Repeat([]int{3}, len(l))...)
	rest(s)
	if !slices.Equal(l[:cap(l)], whole) {
		t.Errorf("%d were changed to %d", whole, l[:cap(l)])
	}
}

func TestStreamsOfOneListAreIndependent(t *testing.T) {
	l := samples()
	a, b := New(l...), New(l...)
	for i, d := range l {
		checkNext(t, a, 1000, d)
		checkState(t, b, i/2, l...)
		if i%2 != 0 {
			checkNext(t, b, 77, l[i/2])
		}
		checkState(t, a, i+1, l...)
	}
}

// P5.2

func TestManyOfKnownDraws(t *testing.T) {
	for _, c := range []struct {
		l      []uint64
		bounds []int
		want   []int
	}{
		{[]uint64{7, 9}, []int{5, 4}, []int{2, 1}},
		{[]uint64{7, 9}, []int{5}, []int{2}},
		{[]uint64{7, 9}, []int{4, 5}, []int{3, 4}},
		{[]uint64{9, 7, 8}, []int{5, 4}, []int{4, 3}},
		{[]uint64{7, 7, 7}, []int{1, 2, 3}, []int{0, 1, 1}},
		{[]uint64{most, most, most}, []int{top, 10, 1}, []int{1, 5, 0}},
		{[]uint64{most}, []int{1 << 62}, []int{1<<62 - 1}},
	} {
		s := New(c.l...)
		if got, ok := s.Many(c.bounds...); !slices.Equal(got, c.want) || !ok {
			t.Errorf("Many(%d) of the draws %d = %d, %t, want %d, true", c.bounds, c.l, got, ok, c.want)
		}
		checkState(t, s, len(c.bounds), c.l...)
	}
}

func TestManyTakesOneDrawForEachBound(t *testing.T) {
	l, bounds := samples(), good()[:len(samples())]
	for used := range l {
		for count := range len(l) - used + 1 {
			s, single := stepped(used, l...), stepped(used, l...)
			checkMany(t, s, bounds[:count], l[used:used+count]...)
			checkState(t, s, used+count, l...)
			for i, n := range bounds[:count] {
				checkNext(t, single, n, l[used+i])
			}
			checkState(t, single, used+count, l...)
		}
	}
}

func TestManyAndNextTakeTurns(t *testing.T) {
	l := samples()
	s := New(l...)
	for used := 0; used+4 <= len(l); used += 4 {
		checkNext(t, s, 1000, l[used])
		checkMany(t, s, []int{top, 1, 99}, l[used+1:used+4]...)
		checkState(t, s, used+4, l...)
	}
}

func TestManyOfNoBounds(t *testing.T) {
	l := samples()
	for used := range len(l) + 1 {
		s := stepped(used, l...)
		checkMany(t, s, nil)
		checkMany(t, s, []int{})
		checkMany(t, s, roomy(5, []int{}...))
		checkState(t, s, used, l...)
	}
	s := New()
	checkMany(t, s, nil)
	checkState(t, s, 0)
}

func TestManyWithABadBoundUsesNothing(t *testing.T) {
	l := samples()[:8]
	for used := range l {
		s := stepped(used, l...)
		for count := 1; count <= len(l)-used; count++ {
			for at := range count {
				for _, n := range bad {
					bounds := slices.Clone(good()[:count])
					bounds[at] = n
					checkNotMany(t, s, bounds...)
					checkState(t, s, used, l...)
				}
			}
		}
		checkNext(t, s, 1000, l[used])
	}
}

func TestManyWithTooManyBoundsUsesNothing(t *testing.T) {
	l := samples()[:8]
	for used := range len(l) + 1 {
		s := stepped(used, l...)
		for more := 1; more < 10; more++ {
			bounds := good()[:len(l)-used+more]
			checkNotMany(t, s, bounds...)
			bounds[len(bounds)-1] = 0
			checkNotMany(t, s, bounds...)
			bounds[0] = low
			checkNotMany(t, s, bounds...)
			checkState(t, s, used, l...)
		}
		checkMany(t, s, good()[:len(l)-used], l[used:]...)
	}
	checkNotMany(t, New(), 1)
	checkNotMany(t, New(), 0)
}

func TestManyKeepsItsBounds(t *testing.T) {
	l := samples()
	for _, bounds := range [][]int{roomy(7, 5, 4, 3), roomy(7, 5, 4, 0), roomy(7, slices.Repeat([]int{9}, len(l)+1)...)} {
		whole := slices.Clone(bounds[:cap(bounds)])
		s := New(l...)
		s.Many(bounds...)
		if !slices.Equal(bounds[:cap(bounds)], whole) {
			t.Errorf("%d were changed to %d", whole, bounds[:cap(bounds)])
		}
	}
}

func TestManyGivesNewMemory(t *testing.T) {
	l, bounds := samples(), []int{1000, top, 99}
	s := New(l...)
	c := s.Clone()
	a, _ := s.Many(bounds...)
	b, _ := s.Many(bounds...)
	twin, _ := c.Many(bounds...)
	was, same := slices.Clone(b), slices.Clone(twin)
	for i := range a {
		a[i] = -1
	}
	a = append(a, -1, -1, -1, -1)
	if !slices.Equal(b, was) || !slices.Equal(twin, same) {
		t.Errorf("a changed result %d changes others to %d and %d", a, b, twin)
	}
	if !slices.Equal(bounds, []int{1000, top, 99}) {
		t.Errorf("a changed result changes the bounds to %d", bounds)
	}
	checkState(t, s, 6, l...)
	checkState(t, c, 3, l...)
}

// P5.3

func TestLeftAndUsedAfterEachCall(t *testing.T) {
	l := []uint64{7, 9, most, 0, 5}
	s := New(l...)
	for i, c := range []struct {
		call func()
		used int
	}{
		{func() {}, 0},
		{func() { s.Next(5) }, 1},
		{func() { s.Next(0) }, 1},
		{func() { s.Next(1) }, 2},
		{func() { s.Many() }, 2},
		{func() { s.Many(1, 2, 3, 4) }, 2},
		{func() { s.Many(1, -1) }, 2},
		{func() { s.Many(1, top) }, 4},
		{func() { s.Clone().Next(5) }, 4},
		{func() { rest(s) }, 4},
		{func() { s.Many(3, 3) }, 4},
		{func() { s.Many(3) }, 5},
		{func() { s.Next(3) }, 5},
		{func() { s.Many(3) }, 5},
		{func() { s.Many() }, 5},
	} {
		c.call()
		if s.Used() != c.used || s.Left() != len(l)-c.used {
			t.Errorf("after the call %d: Used() = %d and Left() = %d, want %d and %d", i, s.Used(), s.Left(), c.used, len(l)-c.used)
		}
	}
}

func TestCloneHasTheSameDraws(t *testing.T) {
	l := samples()
	for used := range len(l) + 1 {
		s := stepped(used, l...)
		c := s.Clone()
		if c == s || c == nil {
			t.Fatal("a copy is no stream of its own")
		}
		checkState(t, c, used, l...)
		checkState(t, s, used, l...)
		checkState(t, c.Clone(), used, l...)
	}
	checkState(t, New().Clone(), 0)
}

func TestCloneAndOriginalOneAfterTheOther(t *testing.T) {
	l := samples()
	for used := range len(l) + 1 {
		for turn := range 2 {
			s := stepped(used, l...)
			both := []*Stream{s, s.Clone()}
			first, second := both[turn], both[1-turn]
			for i := used; i < len(l); i++ {
				checkNext(t, first, 1000, l[i])
				checkState(t, second, used, l...)
			}
			checkNoNext(t, first, 1000)
			checkMany(t, second, slices.Repeat([]int{99}, len(l)-used), l[used:]...)
			checkState(t, first, len(l), l...)
			checkState(t, second, len(l), l...)
		}
	}
}

func TestCloneAndOriginalTakeTurns(t *testing.T) {
	l := samples()
	s := New(l...)
	c := s.Clone()
	for i := 0; i+2 <= len(l); i += 2 {
		checkNext(t, s, 1000, l[i])
		checkState(t, c, i, l...)
		checkMany(t, c, []int{5, top}, l[i:i+2]...)
		checkState(t, s, i+1, l...)
		checkMany(t, s, []int{99}, l[i+1])
	}
}

func TestClonesFromDifferentPlaces(t *testing.T) {
	l := samples()
	s := New(l...)
	var copies []*Stream
	for _, d := range l {
		copies = append(copies, s.Clone())
		checkNext(t, s, 10, d)
	}
	for i, c := range copies {
		checkState(t, c, i, l...)
		again := c.Clone()
		checkNext(t, c, 1000, l[i])
		checkState(t, again, i, l...)
		checkNext(t, again, 7, l[i])
	}
	checkState(t, s, len(l), l...)
}

// TestClonesWithGoroutines is for go test -race: what streams share may only be read.
func TestClonesWithGoroutines(t *testing.T) {
	l := samples()
	s := New(l...)
	var group sync.WaitGroup
	for _, c := range []*Stream{s, s.Clone(), s.Clone(), New(l...)} {
		group.Go(func() {
			for i, d := range l {
				if got, ok := c.Clone().Next(99); got != remainder(d, 99) || !ok {
					t.Errorf("a copy of the copy: Next at %d = %d, %t", i, got, ok)
				}
				if got, ok := c.Next(1000); got != remainder(d, 1000) || !ok {
					t.Errorf("Next at %d = %d, %t", i, got, ok)
				}
			}
		})
	}
	group.Wait()
}

// P5.4

func TestAllOfKnownDraws(t *testing.T) {
	for _, c := range []struct {
		l       []uint64
		used    int
		indices []int
		draws   []uint64
	}{
		{[]uint64{7, 9, most}, 0, []int{0, 1, 2}, []uint64{7, 9, most}},
		{[]uint64{7, 9, most}, 1, []int{1, 2}, []uint64{9, most}},
		{[]uint64{7, 9, most}, 2, []int{2}, []uint64{most}},
		{[]uint64{7, 9, most}, 3, nil, nil},
		{[]uint64{0}, 0, []int{0}, []uint64{0}},
		{nil, 0, nil, nil},
	} {
		s := stepped(c.used, c.l...)
		for range 2 { // All uses none of them
			if indices, draws := rest(s); !slices.Equal(indices, c.indices) || !slices.Equal(draws, c.draws) {
				t.Errorf("All of %d after %d: %d, %d, want %d, %d", c.l, c.used, indices, draws, c.indices, c.draws)
			}
		}
	}
}

func TestAllUsesNothing(t *testing.T) {
	l := samples()
	for used := range l {
		s := stepped(used, l...)
		for range 3 {
			rest(s)
		}
		if s.Used() != used || s.Left() != len(l)-used {
			t.Fatalf("after All: Used() = %d and Left() = %d, want %d and %d", s.Used(), s.Left(), used, len(l)-used)
		}
		checkNext(t, s, 1000, l[used])
	}
}

func TestAllLeftEarly(t *testing.T) {
	l := samples()
	for used := range l {
		for stop := used; stop < len(l); stop++ {
			s, calls := stepped(used, l...), 0
			s.All(func(i int, d uint64) bool {
				if i != used+calls || d != l[i] {
					t.Fatalf("All yields %d, %d at %d after %d", i, d, calls, used)
				}
				calls++
				return i < stop
			})
			if calls != stop-used+1 {
				t.Fatalf("All, left at %d after %d, has yielded %d draws", stop, used, calls)
			}
			checkState(t, s, used, l...)
		}
	}
}

func TestAllWithinAll(t *testing.T) {
	l := samples()[:9]
	for used := range l {
		s, pairs := stepped(used, l...), 0
		for i, a := range s.All {
			for k, b := range s.All {
				if a != l[i] || b != l[k] || k-used != pairs%(len(l)-used) {
					t.Fatalf("All within All yields %d, %d and %d, %d", i, a, k, b)
				}
				pairs++
			}
		}
		if pairs != (len(l)-used)*(len(l)-used) {
			t.Errorf("All within All yields %d pairs after %d", pairs, used)
		}
		checkState(t, s, used, l...)
	}
}

func TestAllBeginsWhenItIsCalled(t *testing.T) {
	l := samples()
	s := New(l...)
	all := s.All
	s.Next(5)
	count := 0
	for i, d := range all {
		if i != 1+count || d != l[i] {
			t.Fatalf("All yields %d, %d", i, d)
		}
		count++
	}
	if count != len(l)-1 {
		t.Errorf("All yields %d draws of %d that are left", count, len(l)-1)
	}
}

// The chapter does not say what becomes of All if draws are used meanwhile; here it yields those that were left when it began.
func TestDrawsUsedDuringAll(t *testing.T) {
	l := samples()
	for _, take := range []int{1, 2, len(l)} {
		s := stepped(3, l...)
		var indices []int
		for i, d := range s.All {
			if d != l[i] {
				t.Fatalf("All yields %d at %d, want %d", d, i, l[i])
			}
			indices = append(indices, i)
			for range take {
				s.Next(5)
			}
		}
		if len(indices) != len(l)-3 || indices[0] != 3 || !slices.IsSorted(indices) {
			t.Errorf("All yields the indices %d", indices)
		}
		checkState(t, s, len(l), l...)
	}
}

// P1

func TestNilStream(t *testing.T) {
	var s *Stream
	for _, n := range append(good(), bad...) {
		checkNoNext(t, s, n)
		checkNotMany(t, s, n)
		checkNotMany(t, s, 5, n)
	}
	checkNotMany(t, s)
	checkNotMany(t, s, []int{}...)
	if s.Left() != 0 || s.Used() != 0 {
		t.Errorf("Left() = %d and Used() = %d, want 0 and 0", s.Left(), s.Used())
	}
	if c := s.Clone(); c != nil {
		t.Errorf("Clone() = %v, want nil", c)
	}
	for i, d := range s.All {
		t.Errorf("All yields %d, %d", i, d)
	}
	s.All(nil)
}

func TestAllWithoutAFunction(t *testing.T) {
	l := samples()
	for _, used := range []int{0, 5, len(l)} {
		s := stepped(used, l...)
		s.All(nil)
		checkState(t, s, used, l...)
	}
	New().All(nil)
}

// All of it

// model says what a stream has to do, in its own words: what is left of the list, and how many are gone.
type model struct {
	left []uint64
	gone int
}

// take returns the draws that are used below bounds, or false if nothing is used.
func (m *model) take(bounds []int) ([]int, bool) {
	for _, n := range bounds {
		if n < 1 {
			return nil, false
		}
	}
	if len(m.left) < len(bounds) {
		return nil, false
	}
	var l []int
	for _, n := range bounds {
		l = append(l, remainder(m.left[0], n))
		m.left, m.gone = m.left[1:], m.gone+1
	}
	return l, true
}

// pair is a stream with its model.
type pair struct {
	s *Stream
	m model
}

// agree does one thing with a stream and its model, which x tells, and compares them.
func (p *pair) agree(t *testing.T, x uint64, whole []uint64) {
	t.Helper()
	choices := append(good(), 0, -1, low)
	bounds := make([]int, x>>8%4)
	for i := range bounds {
		bounds[i] = choices[x>>(16+8*i)%uint64(len(choices))]
	}
	want, all := p.m.take(bounds)
	got, ok := p.s.Many(bounds...)
	if !slices.Equal(got, want) || ok != all {
		t.Fatalf("Many(%d) = %d, %t, want %d, %t", bounds, got, ok, want, all)
	}
	if x%3 == 0 {
		n := choices[x>>48%uint64(len(choices))]
		one, some := p.m.take([]int{n})
		if !some {
			one = []int{0}
		}
		if got, ok := p.s.Next(n); got != one[0] || ok != some {
			t.Fatalf("Next(%d) = %d, %t, want %d, %t", n, got, ok, one[0], some)
		}
	}
	checkState(t, p.s, p.m.gone, whole...)
}

func TestManyStreamsAgainstTheirModels(t *testing.T) {
	whole := slices.Repeat(samples(), 10)
	pairs := []pair{{New(whole...), model{left: whole}}}
	x := uint64(0x2545f4914f6cdd1d)
	for range 2000 {
		x ^= x << 13
		x ^= x >> 7
		x ^= x << 17
		i := int(x >> 40 % uint64(len(pairs)))
		if x%50 == 0 {
			pairs = append(pairs, pair{pairs[i].s.Clone(), pairs[i].m})
		}
		pairs[i].agree(t, x, whole)
	}
	for _, p := range pairs {
		checkState(t, p.s, p.m.gone, whole...)
	}
}
