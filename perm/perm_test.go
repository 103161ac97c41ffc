package perm

import (
	"math"
	"slices"
	"sync"
	"testing"

	"sakia/draw"
)

const (
	top   = math.MaxInt
	low   = math.MinInt
	most  = 1 << 20        // the greatest number of numbers that are shuffled
	great = math.MaxUint64 // the greatest draw
)

// mixed returns draws with mixed bits.
func mixed(count int) []uint64 {
	l := make([]uint64, count)
	x := uint64(0x9e3779b97f4a7c15)
	for i := range l {
		x ^= x << 13
		x ^= x >> 7
		x ^= x << 17
		l[i] = x
	}
	return l
}

// all returns all permutations of n numbers: the greatest number in each place of each permutation of the others.
func all(n int) [][]int {
	if n == 0 {
		return [][]int{{}}
	}
	var l [][]int
	for _, p := range all(n - 1) {
		for at := range n {
			l = append(l, slices.Insert(slices.Clone(p), at, n-1))
		}
	}
	return l
}

// some returns permutations: all of a few numbers, and some of many numbers.
func some() [][]int {
	var l [][]int
	for n := range 6 {
		l = append(l, all(n)...)
	}
	for _, n := range []int{6, 7, 10, 64, 99, 1000} {
		l = append(l, count(n), turned(n), mirrored(n), shuffled(n, mixed(n)...))
	}
	return l
}

// count returns the numbers 0 to n - 1, which have n cycles.
func count(n int) []int {
	var l []int
	for i := range n {
		l = append(l, i)
	}
	return l
}

// turned returns a permutation with one cycle: each number is followed by the next one.
func turned(n int) []int {
	var l []int
	for i := range n {
		l = append(l, (i+1)%n)
	}
	return l
}

// mirrored returns the numbers from n - 1 down to 0.
func mirrored(n int) []int {
	l := count(n)
	slices.Reverse(l)
	return l
}

// shuffled returns the permutation that draws make, by the words of the chapter.
func shuffled(n int, draws ...uint64) []int {
	l := count(n)
	for i := n - 1; i >= 1; i-- {
		j := int(draws[0] % uint64(i+1))
		draws = draws[1:]
		first, second := l[i], l[j]
		l[i] = second
		l[j] = first
	}
	return l
}

// isPermutation reports whether each of the numbers from 0 on, as many as there are elements, is there once.
func isPermutation(l []int) bool {
	s := slices.Clone(l)
	slices.Sort(s)
	return slices.Equal(s, count(len(l)))
}

// lists returns all lists of n of the numbers.
func lists(n int, from ...int) [][]int {
	if n == 0 {
		return [][]int{{}}
	}
	var l [][]int
	for _, p := range lists(n-1, from...) {
		for _, x := range from {
			l = append(l, append(slices.Clone(p), x))
		}
	}
	return l
}

// wrong returns lists that are no permutations.
func wrong() [][]int {
	l := [][]int{
		{1}, {2}, {-1}, {low}, {top}, {1 << 32}, {most},
		{0, 0}, {1, 1}, {0, 2}, {2, 1}, {1, 2}, {0, -1}, {-1, 0}, {-2, -1}, {low, 0}, {1, low}, {top, 0}, {1, top}, {low, top},
		{0, 1, 1}, {0, 0, 1}, {2, 2, 0}, {1, 2, 3}, {3, 2, 1}, {0, 1, 3}, {-1, 0, 1}, {0, 1, 1 << 32}, {0, 1, 2 - 1<<32}, {2, 1, low}, {top, 1, 2},
	}
	for n := 1; n < 5; n++ {
		for _, p := range all(n) {
			for at := range n {
				for _, x := range []int{low, -most, -1, p[(at+1)%n], n, n + 1, 1 << 32, top} {
					if x != p[at] {
						l = append(l, replaced(p, at, x))
					}
				}
			}
		}
	}
	p := shuffled(1000, mixed(1000)...)
	for _, at := range []int{0, 1, 500, 998, 999} {
		l = append(l, replaced(p, at, 1000), replaced(p, at, -1), replaced(p, at, p[(at+500)%1000]), replaced(p, at, low), replaced(p, at, top))
	}
	return l
}

// replaced returns a copy with another element at an index.
func replaced(l []int, at, x int) []int {
	l = slices.Clone(l)
	l[at] = x
	return l
}

// roomy returns a copy with other elements in its memory beyond its length.
func roomy(l []int) []int { return append(slices.Clone(l), 5, 6, 7)[:len(l)] }

// whole returns a copy of a list with what is in its memory beyond its length.
func whole(l []int) []int { return slices.Clone(l[:cap(l)]) }

// stream returns a stream of which some draws are used.
func stream(used int, draws ...uint64) *draw.Stream {
	s := draw.New(draws...)
	for range used {
		s.Next(1)
	}
	return s
}

// checkState tests how many draws of a stream are used, and how many are left.
func checkState(t *testing.T, s *draw.Stream, used, left int) {
	t.Helper()
	if s.Used() != used || s.Left() != left {
		t.Fatalf("Used() = %d and Left() = %d, want %d and %d", s.Used(), s.Left(), used, left)
	}
}

// checkShuffle tests that Shuffle makes a permutation.
func checkShuffle(t *testing.T, n int, s *draw.Stream, want []int) {
	t.Helper()
	used, left := s.Used(), s.Left()
	if got, ok := Shuffle(n, s); !slices.Equal(got, want) || !ok {
		t.Fatalf("Shuffle(%d) = %d, %t, want %d, true", n, got, ok, want)
	}
	needed := max(0, n-1)
	checkState(t, s, used+needed, left-needed)
}

// checkNoShuffle tests that Shuffle returns nothing and uses nothing.
func checkNoShuffle(t *testing.T, n int, s *draw.Stream) {
	t.Helper()
	used, left := s.Used(), s.Left()
	if got, ok := Shuffle(n, s); len(got) != 0 || ok {
		t.Fatalf("Shuffle(%d) with %d draws = %d, %t, want nothing and false", n, left, got, ok)
	}
	checkState(t, s, used, left)
}

// P6.1

func TestShuffleWithKnownDraws(t *testing.T) {
	for _, c := range []struct {
		n     int
		draws []uint64
		want  []int
	}{
		{3, []uint64{0, 0}, []int{1, 2, 0}},
		{3, []uint64{0, 1}, []int{2, 1, 0}},
		{3, []uint64{1, 0}, []int{2, 0, 1}},
		{3, []uint64{1, 1}, []int{0, 2, 1}},
		{3, []uint64{2, 0}, []int{1, 0, 2}},
		{3, []uint64{2, 1}, []int{0, 1, 2}},
		{3, []uint64{3, 2}, []int{1, 2, 0}},
		{3, []uint64{great, great}, []int{2, 1, 0}},
		{4, []uint64{3, 2, 1}, []int{0, 1, 2, 3}},
		{4, []uint64{0, 0, 0}, []int{1, 2, 3, 0}},
		{4, []uint64{1, 2, 0}, []int{3, 0, 2, 1}},
		{4, []uint64{1, 1, 1}, []int{0, 2, 3, 1}},
		{5, []uint64{great, great, great, great}, []int{2, 1, 4, 3, 0}},
		{2, []uint64{0}, []int{1, 0}},
		{2, []uint64{1}, []int{0, 1}},
		{2, []uint64{great - 1}, []int{1, 0}},
		{2, []uint64{great}, []int{0, 1}},
		{1, nil, []int{0}},
		{0, nil, nil},
	} {
		s := draw.New(c.draws...)
		checkShuffle(t, c.n, s, c.want)
		checkState(t, s, len(c.draws), 0)
	}
}

func TestShuffleTakesTheNextDraws(t *testing.T) {
	draws := append(mixed(40), great, great-1, great-2, 0, 1<<63, 1<<63-1)
	for n := range 12 {
		for used := range 4 {
			needed := max(0, n-1)
			for more := range 3 {
				s := stream(used, draws[:used+needed+more]...)
				checkShuffle(t, n, s, shuffled(n, draws[used:]...))
				checkState(t, s, used+needed, more)
			}
		}
	}
}

func TestShuffleOneAfterTheOther(t *testing.T) {
	draws := mixed(1000)
	s, used := draw.New(draws...), 0
	for _, n := range []int{3, 1, 10, 0, 2, 500, 0, 1, 7, 400} {
		checkShuffle(t, n, s, shuffled(n, draws[used:]...))
		used += max(0, n-1)
		checkState(t, s, used, len(draws)-used)
		checkNoShuffle(t, len(draws)-used+2, s)
		checkNoShuffle(t, -1, s)
	}
}

func TestShuffleWithGreatDraws(t *testing.T) {
	for n := range 70 {
		for _, d := range []uint64{great, great - 1, 1 << 63, 1<<63 - 1, 1<<32 - 1, 1 << 32} {
			draws := slices.Repeat([]uint64{d}, n)
			s := draw.New(draws...)
			checkShuffle(t, n, s, shuffled(n, draws...))
		}
	}
}

func TestShuffleMakesEachPermutationOnce(t *testing.T) {
	for n := range 7 {
		seen := map[string]bool{}
		draws := [][]uint64{{}}
		for i := n - 1; i >= 1; i-- {
			var longer [][]uint64
			for _, l := range draws {
				for j := range i + 1 {
					longer = append(longer, append(slices.Clone(l), uint64(j)))
				}
			}
			draws = longer
		}
		for _, l := range draws {
			p, ok := Shuffle(n, draw.New(l...))
			if !isPermutation(p) || len(p) != n || !ok {
				t.Fatalf("Shuffle(%d) with the draws %d = %d, %t", n, l, p, ok)
			}
			key := ""
			for _, x := range p {
				key += string(rune('0' + x))
			}
			if seen[key] {
				t.Fatalf("Shuffle(%d) makes %d twice", n, p)
			}
			seen[key] = true
		}
		if len(seen) != len(all(n)) {
			t.Errorf("Shuffle(%d) makes %d permutations", n, len(seen))
		}
	}
}

func TestShuffleOfFewNumbersNeedsNoDraws(t *testing.T) {
	for _, s := range []*draw.Stream{draw.New(), stream(2, 7, 9), draw.New(7, 9), stream(1, 7, 9)} {
		checkShuffle(t, 0, s, nil)
		checkShuffle(t, 1, s, []int{0})
	}
}

func TestShuffleWithTooFewDraws(t *testing.T) {
	draws := mixed(20)
	for n := 2; n < 12; n++ {
		for used := range 4 {
			for left := range n - 1 {
				s := stream(used, draws[:used+left]...)
				checkNoShuffle(t, n, s)
				checkNoShuffle(t, n, s)
				checkShuffle(t, left+1, s, shuffled(left+1, draws[used:]...)) // nothing was used before
			}
		}
	}
}

func TestShuffleOutOfRange(t *testing.T) {
	draws := mixed(most + 5)
	s := draw.New(draws...)
	for _, n := range []int{-1, -2, -most, -1 << 32, low + 1, low, most + 1, most + 2, most + 5, 1 << 32, 1<<32 + 1, top - 1, top} {
		checkNoShuffle(t, n, s)
		checkNoShuffle(t, n, draw.New())
		checkNoShuffle(t, n, nil)
	}
	checkShuffle(t, 5, s, shuffled(5, draws...))
}

func TestShuffleWithoutAStream(t *testing.T) {
	for _, n := range []int{low, -1, 0, 1, 2, 3, 1000, most, most + 1, top} {
		checkNoShuffle(t, n, nil)
	}
}

func TestShuffleOfTheMostNumbers(t *testing.T) {
	draws := mixed(most)
	want := shuffled(most, draws...)
	s := draw.New(draws[:most-1]...)
	checkShuffle(t, most, s, want)
	checkState(t, s, most-1, 0)
	s = draw.New(draws...)
	checkShuffle(t, most, s, want)
	checkState(t, s, most-1, 1)
	s = draw.New(draws[:most-2]...)
	checkNoShuffle(t, most, s)
	checkShuffle(t, most-1, s, shuffled(most-1, draws...))
}

func TestShuffleOfACopyLeavesTheOther(t *testing.T) {
	draws := mixed(20)
	s := draw.New(draws...)
	c := s.Clone()
	checkShuffle(t, 6, s, shuffled(6, draws...))
	checkState(t, c, 0, 20)
	checkShuffle(t, 6, c, shuffled(6, draws...))
	checkState(t, s, 5, 15)
}

func TestShuffleGivesNewMemory(t *testing.T) {
	draws := mixed(20)
	s := draw.New(draws...)
	c := s.Clone()
	a, _ := Shuffle(9, s)
	b, _ := Shuffle(9, s)
	twin, _ := Shuffle(9, c)
	clear(a[:cap(a)])
	if !slices.Equal(b, shuffled(9, draws[8:]...)) || !slices.Equal(twin, shuffled(9, draws...)) {
		t.Errorf("a changed result changes others to %d and %d", b, twin)
	}
	checkShuffle(t, 3, s, shuffled(3, draws[16:]...))
}

func TestNeed(t *testing.T) {
	for _, c := range []struct{ n, want int }{
		{low, 0}, {low + 1, 0}, {-1 << 32, 0}, {-most, 0}, {-2, 0}, {-1, 0}, {0, 0},
		{1, 0}, {2, 1}, {3, 2}, {4, 3}, {10, 9}, {1000, 999}, {most - 1, most - 2}, {most, most - 1},
		// the limit is one of Shuffle
		{most + 1, most}, {1<<32 + 1, 1 << 32}, {top, top - 1},
	} {
		if got := Need(c.n); got != c.want {
			t.Errorf("Need(%d) = %d, want %d", c.n, got, c.want)
		}
	}
}

func TestNeedIsWhatShuffleUses(t *testing.T) {
	for n := range 100 {
		s := draw.New(mixed(100)...)
		if _, ok := Shuffle(n, s); s.Used() != Need(n) || !ok {
			t.Errorf("Shuffle(%d) uses %d draws, Need(%d) = %d", n, s.Used(), n, Need(n))
		}
	}
}

// P6.2

func TestDrawsOfKnownPermutations(t *testing.T) {
	for _, c := range []struct {
		p    []int
		want []uint64
	}{
		{nil, nil},
		{[]int{}, nil},
		{[]int{0}, nil},
		{[]int{1, 0}, []uint64{0}},
		{[]int{0, 1}, []uint64{1}},
		{[]int{1, 2, 0}, []uint64{0, 0}},
		{[]int{2, 1, 0}, []uint64{0, 1}},
		{[]int{2, 0, 1}, []uint64{1, 0}},
		{[]int{0, 2, 1}, []uint64{1, 1}},
		{[]int{1, 0, 2}, []uint64{2, 0}},
		{[]int{0, 1, 2}, []uint64{2, 1}},
		{[]int{1, 2, 3, 0}, []uint64{0, 0, 0}},
		{[]int{3, 0, 2, 1}, []uint64{1, 2, 0}},
		{[]int{0, 2, 3, 1}, []uint64{1, 1, 1}},
		{[]int{2, 1, 4, 3, 0}, []uint64{0, 3, 0, 1}},
	} {
		if got, ok := Draws(c.p...); !slices.Equal(got, c.want) || !ok {
			t.Errorf("Draws(%d) = %d, %t, want %d, true", c.p, got, ok, c.want)
		}
	}
}

// checkDraws tests that Draws returns draws below their bounds which make a permutation.
func checkDraws(t *testing.T, p []int) []uint64 {
	t.Helper()
	draws, ok := Draws(p...)
	if len(draws) != max(0, len(p)-1) || !ok {
		t.Fatalf("Draws(%d) = %d, %t", p, draws, ok)
	}
	for k, d := range draws {
		if i := len(p) - 1 - k; d >= uint64(i+1) {
			t.Fatalf("Draws(%d) = %d, but the bound of %d is %d", p, draws, d, i+1)
		}
	}
	if got := shuffled(len(p), draws...); !slices.Equal(got, p) {
		t.Fatalf("Draws(%d) = %d, which make %d", p, draws, got)
	}
	return draws
}

func TestDrawsAreBelowTheirBounds(t *testing.T) {
	for _, p := range slices.Concat(some(), all(6), all(7)) {
		checkDraws(t, p)
	}
}

func TestDrawsAreTheRemaindersOfTheDraws(t *testing.T) {
	for _, n := range []int{0, 1, 2, 3, 10, 1000, most} {
		given := mixed(n)
		if n > 2 {
			given[1] = great
		}
		draws := checkDraws(t, shuffled(n, given...))
		for k, d := range draws {
			if want := given[k] % uint64(n-k); d != want {
				t.Fatalf("the draw %d of %d numbers is %d, want %d", k, n, d, want)
			}
		}
	}
	checkDraws(t, turned(most))
	checkDraws(t, count(most))
	checkDraws(t, mirrored(most))
}

func TestDrawsOfNoPermutation(t *testing.T) {
	for _, l := range wrong() {
		if draws, ok := Draws(l...); len(draws) != 0 || ok {
			t.Errorf("Draws(%d) = %d, %t, want nothing and false", l, draws, ok)
		}
	}
}

func TestDrawsGivesNewMemory(t *testing.T) {
	p := shuffled(9, mixed(9)...)
	a, _ := Draws(p...)
	b, _ := Draws(p...)
	want := slices.Clone(b)
	clear(a[:cap(a)])
	if c, _ := Draws(p...); !slices.Equal(b, want) || !slices.Equal(c, want) {
		t.Errorf("a changed result changes others to %d and %d, want %d", b, c, want)
	}
}

// P6.3

func TestValidOfAllShortLists(t *testing.T) {
	from := []int{low, -1 << 32, -1, 0, 1, 2, 3, 4, 5, 1 << 32, top}
	for n := range 5 {
		right := 0
		for _, l := range lists(n, from...) {
			want := isPermutation(l)
			if got := Valid(l...); got != want {
				t.Fatalf("Valid(%d) = %t", l, got)
			}
			if want {
				right++
			}
		}
		if right != len(all(n)) {
			t.Fatalf("%d permutations of %d numbers", right, n)
		}
	}
}

func TestValid(t *testing.T) {
	if !Valid() || !Valid([]int{}...) || !Valid(0) {
		t.Error("no numbers and one number are a permutation")
	}
	for _, p := range some() {
		if !Valid(p...) {
			t.Errorf("Valid(%d) = false", p)
		}
	}
	for _, l := range wrong() {
		if Valid(l...) {
			t.Errorf("Valid(%d) = true", l)
		}
	}
}

func TestValidOfManyNumbers(t *testing.T) {
	p := shuffled(most, mixed(most)...)
	if !Valid(p...) || !Valid(turned(most)...) {
		t.Error("Valid of 2^20 numbers that are a permutation = false")
	}
	for _, x := range []int{p[0], most, -1, low, top} {
		if Valid(replaced(p, most-1, x)...) {
			t.Errorf("Valid of 2^20 numbers with %d at the end = true", x)
		}
	}
}

// The chapter limits how many numbers are shuffled, not how many a permutation has.
func TestPermutationsOfMoreNumbersThanAreShuffled(t *testing.T) {
	p := turned(most + 1)
	if !Valid(p...) {
		t.Error("Valid of more than 2^20 numbers = false")
	}
	checkDraws(t, p)
	checkInverse(t, p)
	checkCycles(t, p)
	if l, ok := Compose(p, p); len(l) != most+1 || l[0] != 2 || !ok {
		t.Error("Compose of more than 2^20 numbers fails")
	}
}

func TestInverseOfKnownPermutations(t *testing.T) {
	for _, c := range []struct{ p, want []int }{
		{nil, nil},
		{[]int{}, nil},
		{[]int{0}, []int{0}},
		{[]int{1, 0}, []int{1, 0}},
		{[]int{1, 2, 0}, []int{2, 0, 1}},
		{[]int{2, 0, 1}, []int{1, 2, 0}},
		{[]int{0, 2, 1}, []int{0, 2, 1}},
		{[]int{3, 0, 2, 1}, []int{1, 3, 2, 0}},
	} {
		if got, ok := Inverse(c.p...); !slices.Equal(got, c.want) || !ok {
			t.Errorf("Inverse(%d) = %d, %t, want %d, true", c.p, got, ok, c.want)
		}
	}
}

// checkInverse tests the inverse by its definition.
func checkInverse(t *testing.T, p []int) {
	t.Helper()
	q, ok := Inverse(p...)
	if len(q) != len(p) || !ok {
		t.Fatalf("Inverse(%d) = %d, %t", p, q, ok)
	}
	for i := range p {
		if q[p[i]] != i {
			t.Fatalf("Inverse(%d) = %d", p, q)
		}
	}
}

func TestInverse(t *testing.T) {
	for _, p := range append(some(), shuffled(most, mixed(most)...)) {
		checkInverse(t, p)
	}
}

func TestInverseOfNoPermutation(t *testing.T) {
	for _, l := range wrong() {
		if q, ok := Inverse(l...); len(q) != 0 || ok {
			t.Errorf("Inverse(%d) = %d, %t, want nothing and false", l, q, ok)
		}
	}
}

func TestComposeOfKnownPermutations(t *testing.T) {
	for _, c := range []struct{ p, q, want []int }{
		{nil, nil, nil},
		{nil, []int{}, nil},
		{[]int{}, nil, nil},
		{[]int{0}, []int{0}, []int{0}},
		{[]int{1, 0}, []int{1, 0}, []int{0, 1}},
		{[]int{1, 2, 0}, []int{1, 0, 2}, []int{2, 1, 0}},
		{[]int{1, 0, 2}, []int{1, 2, 0}, []int{0, 2, 1}},
		{[]int{1, 2, 0}, []int{1, 2, 0}, []int{2, 0, 1}},
		{[]int{3, 0, 2, 1}, []int{1, 2, 3, 0}, []int{0, 2, 1, 3}},
	} {
		if got, ok := Compose(c.p, c.q); !slices.Equal(got, c.want) || !ok {
			t.Errorf("Compose(%d, %d) = %d, %t, want %d, true", c.p, c.q, got, ok, c.want)
		}
	}
}

// checkCompose tests the composition by its definition.
func checkCompose(t *testing.T, p, q []int) {
	t.Helper()
	got, ok := Compose(p, q)
	if len(got) != len(p) || !ok {
		t.Fatalf("Compose(%d, %d) = %d, %t", p, q, got, ok)
	}
	for i := range q {
		if got[i] != p[q[i]] {
			t.Fatalf("Compose(%d, %d) = %d", p, q, got)
		}
	}
}

// checkNoComposition tests that Compose returns nothing, in both orders.
func checkNoComposition(t *testing.T, p, q []int) {
	t.Helper()
	for range 2 {
		if got, ok := Compose(p, q); len(got) != 0 || ok {
			t.Fatalf("Compose(%d, %d) = %d, %t, want nothing and false", p, q, got, ok)
		}
		p, q = q, p
	}
}

func TestCompose(t *testing.T) {
	for n := range 5 {
		for _, p := range all(n) {
			for _, q := range all(n) {
				checkCompose(t, p, q)
			}
		}
	}
	p := shuffled(most, mixed(most)...)
	checkCompose(t, p, turned(most))
	checkCompose(t, turned(most), p)
	checkCompose(t, p, p)
}

func TestComposeOfDifferentLengths(t *testing.T) {
	l := append(some(), wrong()...)
	for _, p := range l {
		for _, q := range [][]int{{}, {0}, {1, 0}, {2, 0, 1}, count(4), {0, 0}, {-1}, mirrored(999), turned(1001)} {
			if len(p) != len(q) {
				checkNoComposition(t, p, q)
			}
		}
	}
	for n := range 10 {
		checkNoComposition(t, count(n), count(n+1))
		checkNoComposition(t, count(n+1), nil)
		checkNoComposition(t, turned(n+1), turned(n+2))
	}
}

func TestComposeWithNoPermutation(t *testing.T) {
	for _, l := range wrong() {
		n := len(l)
		checkNoComposition(t, l, count(n))
		checkNoComposition(t, l, turned(n))
		checkNoComposition(t, l, mirrored(n))
		checkNoComposition(t, l, l)
		checkNoComposition(t, l, slices.Repeat([]int{0}, n))
	}
}

func TestInverseAndComposeGiveNewMemory(t *testing.T) {
	p, q := shuffled(9, mixed(9)...), turned(9)
	was := slices.Clone(p)
	for _, call := range []func() []int{
		func() []int { l, _ := Inverse(p...); return l },
		func() []int { l, _ := Compose(p, q); return l },
		func() []int { l, _ := Compose(p, count(9)); return l },
		func() []int { l, _ := Compose(count(9), p); return l },
		func() []int { l, _ := Compose(p, p); return l },
	} {
		a, b := call(), call()
		want := slices.Clone(b)
		clear(a[:cap(a)])
		if c := call(); !slices.Equal(b, want) || !slices.Equal(c, want) {
			t.Errorf("a changed result changes others to %d and %d, want %d", b, c, want)
		}
		if !slices.Equal(p, was) || !slices.Equal(q, turned(9)) {
			t.Fatalf("a changed result changes the arguments to %d and %d", p, q)
		}
	}
}

// P6.4

func TestCyclesOfKnownPermutations(t *testing.T) {
	for _, c := range []struct {
		p    []int
		want [][]int
	}{
		{nil, nil},
		{[]int{}, nil},
		{[]int{0}, [][]int{{0}}},
		{[]int{0, 1}, [][]int{{0}, {1}}},
		{[]int{1, 0}, [][]int{{0, 1}}},
		{[]int{0, 1, 2}, [][]int{{0}, {1}, {2}}},
		{[]int{1, 2, 0}, [][]int{{0, 1, 2}}},
		{[]int{2, 0, 1}, [][]int{{0, 2, 1}}},
		{[]int{1, 0, 2}, [][]int{{0, 1}, {2}}},
		{[]int{0, 2, 1}, [][]int{{0}, {1, 2}}},
		{[]int{2, 1, 0}, [][]int{{0, 2}, {1}}},
		{[]int{3, 2, 1, 0}, [][]int{{0, 3}, {1, 2}}},
		{[]int{2, 1, 4, 3, 0}, [][]int{{0, 2, 4}, {1}, {3}}},
		{[]int{4, 5, 3, 2, 1, 0}, [][]int{{0, 4, 1, 5}, {2, 3}}},
	} {
		got, ok := Cycles(c.p...)
		if !slices.EqualFunc(got, c.want, slices.Equal) || !ok {
			t.Errorf("Cycles(%d) = %d, %t, want %d, true", c.p, got, ok, c.want)
		}
	}
}

// checkCycles tests cycles by what the chapter says of them, and returns how many there are.
func checkCycles(t *testing.T, p []int) int {
	t.Helper()
	cycles, ok := Cycles(p...)
	if !ok {
		t.Fatalf("Cycles(%d) = %d, false", p, cycles)
	}
	for k, cycle := range cycles {
		if len(cycle) == 0 || cycle[0] != slices.Min(cycle) || k > 0 && cycle[0] <= cycles[k-1][0] {
			t.Fatalf("Cycles(%d) = %d", p, cycles)
		}
		for i, x := range cycle {
			if cycle[(i+1)%len(cycle)] != p[x] {
				t.Fatalf("Cycles(%d) = %d", p, cycles)
			}
		}
	}
	if l := slices.Concat(cycles...); len(l) != len(p) || !isPermutation(l) {
		t.Fatalf("Cycles(%d) = %d", p, cycles)
	}
	return len(cycles)
}

func TestCycles(t *testing.T) {
	for _, p := range slices.Concat(some(), all(6), all(7)) {
		checkCycles(t, p)
	}
	checkCycles(t, shuffled(most, mixed(most)...))
}

func TestOneCycleAndAsManyAsNumbers(t *testing.T) {
	for _, n := range []int{1, 2, 3, 10, 1000, most} {
		if got := checkCycles(t, turned(n)); got != 1 {
			t.Errorf("%d cycles of a permutation with one", got)
		}
		if got := checkCycles(t, count(n)); got != n {
			t.Errorf("%d cycles of %d numbers in their places", got, n)
		}
		if got := checkCycles(t, mirrored(n)); got != (n+1)/2 {
			t.Errorf("%d cycles of %d numbers in pairs", got, n)
		}
	}
	if got := checkCycles(t, nil); got != 0 {
		t.Errorf("%d cycles of no numbers", got)
	}
}

func TestCyclesOfNoPermutation(t *testing.T) {
	for _, l := range wrong() {
		if got, ok := Cycles(l...); len(got) != 0 || ok {
			t.Errorf("Cycles(%d) = %d, %t, want nothing and false", l, got, ok)
		}
	}
}

func TestCyclesShareNoMemory(t *testing.T) {
	p := []int{4, 5, 3, 2, 1, 0, 6}
	want := [][]int{{0, 4, 1, 5}, {2, 3}, {6}}
	for k := range want {
		a, _ := Cycles(p...)
		b, _ := Cycles(p...)
		a[k] = append(a[k], -1, -1)
		clear(a[k][:cap(a[k])])
		a[k] = want[k]
		if !slices.EqualFunc(a, want, slices.Equal) || !slices.EqualFunc(b, want, slices.Equal) {
			t.Errorf("a changed cycle changes others to %d and %d", a, b)
		}
		if !slices.Equal(p, []int{4, 5, 3, 2, 1, 0, 6}) {
			t.Fatalf("a changed cycle changes the argument to %d", p)
		}
	}
}

// P6.5

func TestShuffleWithTheDrawsOfAPermutation(t *testing.T) {
	for _, p := range slices.Concat(some(), all(6), all(7), [][]int{turned(most), count(most), shuffled(most, mixed(most)...)}) {
		draws, ok := Draws(p...)
		if !ok {
			t.Fatalf("Draws(%d) = %d, false", p, draws)
		}
		s := draw.New(draws...)
		checkShuffle(t, len(p), s, p)
		checkState(t, s, Need(len(p)), 0)
	}
}

func TestCompositionWithTheInverse(t *testing.T) {
	for _, p := range append(some(), shuffled(most, mixed(most)...)) {
		q, _ := Inverse(p...)
		for _, pair := range [][2][]int{{p, q}, {q, p}} {
			if got, ok := Compose(pair[0], pair[1]); !slices.Equal(got, count(len(p))) || !ok {
				t.Fatalf("Compose(%d, %d) = %d, %t", pair[0], pair[1], got, ok)
			}
		}
		if back, ok := Inverse(q...); !slices.Equal(back, p) || !ok {
			t.Fatalf("the inverse of the inverse of %d = %d, %t", p, back, ok)
		}
	}
}

// All of it

func TestArgumentsAreNotChanged(t *testing.T) {
	for _, l := range append(some(), wrong()...) {
		p, q := roomy(l), roomy(turned(len(l)))
		first, second := whole(p), whole(q)
		Draws(p...)
		Valid(p...)
		Inverse(p...)
		Compose(p, q)
		Compose(q, p)
		Compose(p, p)
		Cycles(p...)
		if !slices.Equal(whole(p), first) || !slices.Equal(whole(q), second) {
			t.Fatalf("%d and %d were changed to %d and %d", first, second, whole(p), whole(q))
		}
	}
}

func TestListsEndAtTheirLength(t *testing.T) {
	p := append(turned(5), 5, 7)
	if !Valid(p[:5]...) || !Valid(p[:6]...) || Valid(p...) || Valid(p[:4]...) {
		t.Error("Valid reads beyond the length of a list, or not up to it")
	}
	if got, ok := Inverse(p[:5]...); !slices.Equal(got, []int{4, 0, 1, 2, 3}) || !ok {
		t.Errorf("Inverse(%d) = %d, %t", p[:5], got, ok)
	}
	if got, ok := Compose(p[:5], p[:5]); !slices.Equal(got, []int{2, 3, 4, 0, 1}) || !ok {
		t.Errorf("Compose(%d, %d) = %d, %t", p[:5], p[:5], got, ok)
	}
	if got, ok := Cycles(p[:5]...); !slices.EqualFunc(got, [][]int{{0, 1, 2, 3, 4}}, slices.Equal) || !ok {
		t.Errorf("Cycles(%d) = %d, %t", p[:5], got, ok)
	}
}

// TestCallsWithGoroutines is for go test -race: calls may share nothing that one of them writes.
func TestCallsWithGoroutines(t *testing.T) {
	p, q := shuffled(50, mixed(50)...), turned(50)
	var group sync.WaitGroup
	for range 4 {
		group.Go(func() {
			for range 50 {
				draws, ok := Draws(p...)
				if got, all := Shuffle(50, draw.New(draws...)); !slices.Equal(got, p) || !ok || !all {
					t.Errorf("Shuffle with the Draws of %d = %d, %t, %t", p, got, ok, all)
				}
				if _, ok := Compose(p, q); !ok || !Valid(p...) {
					t.Error("Compose or Valid fails")
				}
				if l, ok := Cycles(q...); len(l) != 1 || !ok {
					t.Errorf("Cycles(%d) = %d, %t", q, l, ok)
				}
			}
		})
	}
	group.Wait()
}
