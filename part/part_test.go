package part

import (
	"math"
	"slices"
	"testing"
)

const (
	top   = math.MaxInt
	low   = math.MinInt
	most  = 1 << 20 // the greatest n and k
	bound = 1 << 40 // the greatest Hi; the least Lo is -bound
)

// below has numbers that are less than 1.
var below = []int{0, -1, -2, -most, -bound, low + 1, low}

// many returns numbers of indices up to the limit.
func many() []int {
	l := []int{most, most - 1, most / 2, most/2 + 1, 1 << 16, 99991, 1000}
	for n := range 50 {
		l = append(l, n)
	}
	return l
}

// sizes returns the sizes of ranges.
func sizes(l []Range) []int {
	var s []int
	for _, r := range l {
		s = append(s, r.Hi-r.Lo)
	}
	return s
}

// follow reports whether ranges, of which none has less than no indices, follow each other from 0 to n.
func follow(n int, l []Range) bool {
	end := 0
	for _, r := range l {
		if r.Lo != end || r.Hi < r.Lo {
			return false
		}
		end = r.Hi
	}
	return end == n
}

// has reports whether a range has an index; it goes through all of its indices.
func has(r Range, i int) bool {
	for x := r.Lo; x < r.Hi; x++ {
		if x == i {
			return true
		}
	}
	return false
}

// small returns all ranges with small numbers, those without indices and those the wrong way round included.
func small(lo, hi int) []Range {
	var l []Range
	for a := lo; a <= hi; a++ {
		for b := lo; b <= hi; b++ {
			l = append(l, Range{a, b})
		}
	}
	return l
}

// lists yields all lists of up to three of the ranges.
func lists(l []Range, yield func(...Range)) {
	yield()
	for _, a := range l {
		yield(a)
		for _, b := range l {
			yield(a, b)
			for _, c := range l {
				yield(a, b, c)
			}
		}
	}
}

// roomy returns a copy with other ranges in its memory beyond its length.
func roomy(l ...Range) []Range {
	return append(slices.Clone(l), Range{5, 6}, Range{6, 7}, Range{7, 8})[:len(l)]
}

// P4.1

func TestEvenOfKnownNumbers(t *testing.T) {
	for _, c := range []struct {
		n, k int
		want []Range
	}{
		{5, 2, []Range{{0, 3}, {3, 5}}},
		{6, 2, []Range{{0, 3}, {3, 6}}},
		{7, 3, []Range{{0, 3}, {3, 5}, {5, 7}}},
		{8, 3, []Range{{0, 3}, {3, 6}, {6, 8}}},
		{5, 1, []Range{{0, 5}}},
		{3, 3, []Range{{0, 1}, {1, 2}, {2, 3}}},
		{2, 4, []Range{{0, 1}, {1, 2}, {2, 2}, {2, 2}}},
		{1, 1, []Range{{0, 1}}},
		{1, 3, []Range{{0, 1}, {1, 1}, {1, 1}}},
		{0, 1, []Range{{0, 0}}},
		{0, 2, []Range{{0, 0}, {0, 0}}},
		{most, 1, []Range{{0, most}}},
		{most, 2, []Range{{0, most / 2}, {most / 2, most}}},
	} {
		if got := Even(c.n, c.k); !slices.Equal(got, c.want) {
			t.Errorf("Even(%d, %d) = %v, want %v", c.n, c.k, got, c.want)
		}
	}
}

// checkEven tests the even division of n indices by what the chapter says of it.
func checkEven(t *testing.T, n, k int) {
	got := Even(n, k)
	if len(got) != k {
		t.Fatalf("Even(%d, %d) has %d ranges", n, k, len(got))
	}
	if !follow(n, got) {
		t.Errorf("Even(%d, %d): the ranges do not follow each other", n, k)
	}
	s := sizes(got)
	if s[0]-s[k-1] > 1 || !slices.IsSortedFunc(s, func(a, b int) int { return b - a }) {
		t.Errorf("Even(%d, %d): the sizes are not even, or greater ones do not come first", n, k)
	}
}

func TestEvenIsEven(t *testing.T) {
	for _, n := range many() {
		for k := 1; k < 60; k++ {
			checkEven(t, n, k)
		}
	}
	for _, n := range []int{0, 1, 7, 1000, most/2 + 1, most - 1, most} {
		for _, k := range []int{999, 1000, 1001, most / 2, most - 1, most} {
			checkEven(t, n, k)
		}
	}
}

func TestEvenDealsIndicesOut(t *testing.T) {
	for n := range 40 {
		for k := 1; k < 45; k++ {
			want := make([]int, k)
			for i := range n {
				want[i%k]++
			}
			if got := sizes(Even(n, k)); !slices.Equal(got, want) {
				t.Errorf("Even(%d, %d) has the sizes %d, want %d", n, k, got, want)
			}
		}
	}
}

func TestEvenOfTheGreatestNumbers(t *testing.T) {
	for _, n := range []int{0, 1, 2, most - 1, most} {
		for i, r := range Even(n, most) {
			if want := (Range{min(i, n), min(i+1, n)}); r != want {
				t.Fatalf("Even(%d, %d) has %v at %d, want %v", n, most, r, i, want)
			}
		}
	}
}

func TestEvenOfInvalidNumbers(t *testing.T) {
	numbers := append([]int{1, 2, 5, most}, below...)
	for _, n := range numbers {
		for _, k := range numbers {
			if n >= 0 && k >= 1 {
				continue
			}
			if got := Even(n, k); len(got) != 0 {
				t.Errorf("Even(%d, %d) = %v, want nothing", n, k, got)
			}
		}
	}
}

func TestBlocksOfKnownNumbers(t *testing.T) {
	for _, c := range []struct {
		n, size int
		want    []Range
	}{
		{5, 2, []Range{{0, 2}, {2, 4}, {4, 5}}},
		{6, 2, []Range{{0, 2}, {2, 4}, {4, 6}}},
		{6, 3, []Range{{0, 3}, {3, 6}}},
		{7, 3, []Range{{0, 3}, {3, 6}, {6, 7}}},
		{8, 3, []Range{{0, 3}, {3, 6}, {6, 8}}},
		{3, 1, []Range{{0, 1}, {1, 2}, {2, 3}}},
		{5, 4, []Range{{0, 4}, {4, 5}}},
		{5, 5, []Range{{0, 5}}},
		{5, 6, []Range{{0, 5}}},
		{5, top, []Range{{0, 5}}},
		{5, top - 1, []Range{{0, 5}}},
		{1, 1, []Range{{0, 1}}},
		{1, top, []Range{{0, 1}}},
		{most, most, []Range{{0, most}}},
		{most, most + 1, []Range{{0, most}}},
		{most, most - 1, []Range{{0, most - 1}, {most - 1, most}}},
		{most, most / 2, []Range{{0, most / 2}, {most / 2, most}}},
		{most, top, []Range{{0, most}}},
	} {
		if got := Blocks(c.n, c.size); !slices.Equal(got, c.want) {
			t.Errorf("Blocks(%d, %d) = %v, want %v", c.n, c.size, got, c.want)
		}
	}
}

func TestBlocksHaveTheSize(t *testing.T) {
	for _, n := range many() {
		for _, size := range append(many(), n, n+1, top) {
			if n < 1 || size < 1 {
				continue
			}
			got := Blocks(n, size)
			if len(got) == 0 || !follow(n, got) {
				t.Fatalf("Blocks(%d, %d): the blocks do not follow each other", n, size)
			}
			s := sizes(got)
			last := s[len(s)-1]
			if last < 1 || last > size {
				t.Errorf("Blocks(%d, %d): the last block has the size %d", n, size, last)
			}
			for _, x := range s[:len(s)-1] {
				if x != size {
					t.Fatalf("Blocks(%d, %d): a block has the size %d", n, size, x)
				}
			}
		}
	}
}

func TestBlocksOfInvalidNumbers(t *testing.T) {
	numbers := append([]int{1, 2, 5, most}, below...)
	for _, n := range numbers {
		for _, size := range append(numbers, top) {
			if n >= 1 && size >= 1 {
				continue
			}
			if got := Blocks(n, size); len(got) != 0 {
				t.Errorf("Blocks(%d, %d) = %v, want nothing", n, size, got)
			}
		}
	}
}

func TestDivisionsAreNewMemory(t *testing.T) {
	for _, divide := range []func() []Range{
		func() []Range { return Even(5, 2) },
		func() []Range { return Even(0, 2) },
		func() []Range { return Blocks(5, 2) },
		func() []Range { return Blocks(1, 1) },
	} {
		one, two := divide(), divide()
		was := slices.Clone(two)
		for i := range one[:cap(one)] {
			one[:cap(one)][i] = Range{-7, -8}
		}
		if !slices.Equal(two, was) || !slices.Equal(divide(), was) {
			t.Errorf("changing a division changes another one, %v", was)
		}
	}
}

// P4.2

func TestCountOfKnownNumbers(t *testing.T) {
	for _, c := range []struct{ n, size, want int }{
		{5, 2, 3},
		{6, 2, 3},
		{7, 2, 4},
		{5, 5, 1},
		{5, 6, 1},
		{5, 4, 2},
		{5, 1, 5},
		{1, 1, 1},
		{1, top, 1},
		{5, top, 1},
		{most, 1, most},
		{most, 2, most / 2},
		{most - 1, 2, most / 2},
		{most, 3, 349526},
		{most, most - 1, 2},
		{most, most, 1},
		{most, top, 1},
		{most, top - 1, 1},
	} {
		if got := Count(c.n, c.size); got != c.want {
			t.Errorf("Count(%d, %d) = %d, want %d", c.n, c.size, got, c.want)
		}
	}
}

func TestCountIsTheNumberOfBlocks(t *testing.T) {
	for _, n := range append(many(), below...) {
		for _, size := range append(append(many(), n, top), below...) {
			if got, want := Count(n, size), len(Blocks(n, size)); got != want {
				t.Errorf("Count(%d, %d) = %d, but there are %d blocks", n, size, got, want)
			}
		}
	}
}

func TestCountWhereThereAreNoBlocks(t *testing.T) {
	for _, x := range below {
		for _, y := range append([]int{1, 2, most, top}, below...) {
			if got := Count(x, y); got != 0 {
				t.Errorf("Count(%d, %d) = %d, want 0", x, y, got)
			}
			if got := Count(min(y, most), x); got != 0 {
				t.Errorf("Count(%d, %d) = %d, want 0", min(y, most), x, got)
			}
		}
	}
}

// P4.3

func TestSizeOfKnownRanges(t *testing.T) {
	for _, c := range []struct {
		r    Range
		want int
	}{
		{Range{0, 0}, 0},
		{Range{0, 1}, 1},
		{Range{3, 5}, 2},
		{Range{5, 3}, 0},
		{Range{4, 4}, 0},
		{Range{5, 4}, 0},
		{Range{-3, 4}, 7},
		{Range{-5, -3}, 2},
		{Range{-3, -5}, 0},
		{Range{-3, -3}, 0},
		{Range{-bound, bound}, 2 * bound},
		{Range{bound, -bound}, 0},
		{Range{bound, bound}, 0},
		{Range{-bound, -bound}, 0},
		{Range{bound - 1, bound}, 1},
		{Range{0, bound}, bound},
		{Range{-bound, 0}, bound},
	} {
		if got := c.r.Size(); got != c.want {
			t.Errorf("the size of %v is %d, want %d", c.r, got, c.want)
		}
	}
}

func TestSizeIsTheNumberOfIndices(t *testing.T) {
	for _, r := range small(-6, 6) {
		want := 0
		for i := -10; i < 10; i++ {
			if has(r, i) {
				want++
			}
		}
		if got := r.Size(); got != want {
			t.Errorf("the size of %v is %d, want %d", r, got, want)
		}
	}
}

func TestOfKnownRanges(t *testing.T) {
	for n, c := range []struct {
		i    int
		l    []Range
		want int
	}{
		{0, nil, -1},
		{0, []Range{}, -1},
		{0, []Range{{0, 3}, {3, 5}}, 0},
		{2, []Range{{0, 3}, {3, 5}}, 0},
		{3, []Range{{0, 3}, {3, 5}}, 1},
		{4, []Range{{0, 3}, {3, 5}}, 1},
		{5, []Range{{0, 3}, {3, 5}}, -1},
		{-1, []Range{{0, 3}, {3, 5}}, -1},
		{low, []Range{{0, 3}, {3, 5}}, -1},
		{top, []Range{{0, 3}, {3, 5}}, -1},
		{2, []Range{{7, 9}, {1, 3}, {0, 5}, {2, 3}}, 1}, // several have it
		{4, []Range{{7, 9}, {1, 3}, {0, 5}, {2, 3}}, 2},
		{6, []Range{{7, 9}, {1, 3}, {0, 5}, {2, 3}}, -1}, // between them
		{3, []Range{{3, 3}, {5, 1}, {3, 4}}, 2},          // ranges without indices
		{3, []Range{{3, 3}, {5, 1}}, -1},
		{-3, []Range{{0, 3}, {-5, -2}}, 1},
		{-5, []Range{{-5, -2}}, 0},
		{-2, []Range{{-5, -2}}, -1},
		{bound - 1, []Range{{-bound, bound}}, 0},
		{-bound, []Range{{-bound, bound}}, 0},
		{bound, []Range{{-bound, bound}}, -1},
		{-bound - 1, []Range{{-bound, bound}}, -1},
		{top, []Range{{-bound, bound}, {bound, -bound}}, -1},
		{low, []Range{{-bound, bound}, {bound, -bound}}, -1},
		{5, roomy(Range{0, 1}), -1}, // the range beyond the length has it
	} {
		if got := Of(c.i, c.l...); got != c.want {
			t.Errorf("%d: Of(%d, %v) = %d, want %d", n, c.i, c.l, got, c.want)
		}
	}
}

func TestOfIsTheFirstThatHasTheIndex(t *testing.T) {
	lists(small(-1, 2), func(l ...Range) {
		for i := -2; i <= 3; i++ {
			want := -1
			for j := len(l) - 1; j >= 0; j-- {
				if has(l[j], i) {
					want = j
				}
			}
			if got := Of(i, l...); got != want {
				t.Errorf("Of(%d, %v) = %d, want %d", i, l, got, want)
			}
		}
	})
}

func TestCoversOfKnownRanges(t *testing.T) {
	for i, c := range []struct {
		n    int
		l    []Range
		want bool
	}{
		{0, nil, true},
		{0, []Range{}, true},
		{1, nil, false},
		{-1, nil, false},
		{low, nil, false},
		{top, nil, false},
		{5, []Range{{0, 5}}, true},
		{5, []Range{{0, 3}, {3, 5}}, true},
		{5, []Range{{0, 0}, {0, 3}, {3, 3}, {3, 3}, {3, 5}, {5, 5}}, true}, // some are empty
		{0, []Range{{0, 0}}, true},
		{0, []Range{{0, 0}, {0, 0}}, true},
		{bound, []Range{{0, bound}}, true},
		{5, []Range{{0, 2}, {3, 5}}, false},           // a gap
		{5, []Range{{0, 4}, {3, 5}}, false},           // both have 3
		{5, []Range{{1, 3}, {3, 5}}, false},           // it begins at 1
		{5, []Range{{-1, 3}, {3, 5}}, false},          // it begins at -1
		{5, []Range{{0, 3}, {3, 4}}, false},           // it ends at 4
		{5, []Range{{0, 3}, {3, 6}}, false},           // it ends at 6
		{5, []Range{{3, 5}, {0, 3}}, false},           // another order
		{3, []Range{{0, 5}, {5, 3}}, false},           // a Hi that is less than its Lo, at the end
		{5, []Range{{0, 5}, {5, 3}, {3, 5}}, false},   // in between
		{5, []Range{{0, -1}, {-1, 5}}, false},         // at first
		{-1, []Range{{0, -1}}, false},                 // alone
		{low, []Range{{0, low}}, false},               // the least one
		{5, []Range{{0, 5}, {5, 5}, {0, 5}}, false},   // twice
		{0, []Range{{1, 1}}, false},                   // an empty one elsewhere
		{5, []Range{{0, 3}, {9, 9}, {3, 5}}, false},   // likewise
		{1, []Range{{0, 5}}, false},                   // n is less
		{5, roomy([]Range{{0, 5}}...), true},          // what is beyond the length does not matter
		{6, roomy([]Range{{0, 5}}...), false},         // nor does it help
		{-5, []Range{{-5, 0}}, false},                 // what is below 0
		{-bound, []Range{{0, 0}, {0, -bound}}, false}, // the least Hi
	} {
		if got := Covers(c.n, c.l...); got != c.want {
			t.Errorf("%d: Covers(%d, %v) = %t, want %t", i, c.n, c.l, got, c.want)
		}
	}
}

func TestCoversWhatFollows(t *testing.T) {
	covered := 0
	lists(small(-1, 3), func(l ...Range) {
		for n := -2; n <= 4; n++ {
			want := follow(n, l)
			if want {
				covered++
			}
			if got := Covers(n, l...); got != want {
				t.Errorf("Covers(%d, %v) = %t, want %t", n, l, got, want)
			}
		}
	})
	if covered < 20 {
		t.Errorf("only %d lists cover something", covered)
	}
}

func TestRangesKeepTheirValues(t *testing.T) {
	for _, l := range [][]Range{
		roomy(Range{0, 3}, Range{3, 5}),
		roomy(Range{3, 5}, Range{0, 3}),
		roomy(Range{5, 0}, Range{2, 2}, Range{-4, 9}),
		roomy(),
	} {
		was := slices.Clone(l[:cap(l)])
		for i := -5; i < 10; i++ {
			Of(i, l...)
			Covers(i, l...)
		}
		if !slices.Equal(l[:cap(l)], was) {
			t.Errorf("%v were changed to %v", was, l[:cap(l)])
		}
	}
	r := Range{5, 3}
	if r.Size(); r != (Range{5, 3}) {
		t.Errorf("Size changed a range to %v", r)
	}
}

// P4.4

func TestDivisionsCover(t *testing.T) {
	for _, n := range many() {
		for _, k := range []int{1, 2, 3, 5, 7, 64, 1000, n + 1, most} {
			if !Covers(n, Even(n, min(k, most))...) {
				t.Errorf("Even(%d, %d) does not cover %d", n, min(k, most), n)
			}
			if !Covers(n, Blocks(n, k)...) {
				t.Errorf("Blocks(%d, %d) do not cover %d", n, k, n)
			}
		}
		if !Covers(n, Blocks(n, top)...) {
			t.Errorf("Blocks(%d, %d) do not cover %d", n, top, n)
		}
	}
}

func TestEachIndexIsInOneRange(t *testing.T) {
	for n := range 30 {
		for k := 1; k < 35; k++ {
			for _, l := range [][]Range{Even(n, k), Blocks(n, k)} {
				for i := -1; i <= n; i++ {
					count := 0
					for _, r := range l {
						if has(r, i) {
							count++
						}
					}
					if count != 1 && i >= 0 && i < n || count != 0 && (i < 0 || i == n) {
						t.Errorf("%d of the ranges %v have %d", count, l, i)
					}
				}
			}
		}
	}
}

// P1

func TestNoNumbersPanic(t *testing.T) {
	numbers := []int{low, low + 1, -bound, -most, -1, 0, 1, 2, most, most + 1, bound, top - 1, top}
	for _, a := range numbers {
		for _, b := range numbers {
			// Numbers above the limits have no result that is specified, but they must have one.
			for _, l := range [][]Range{Even(a, b), Blocks(a, b)} {
				if len(l) > most {
					t.Errorf("%d, %d give %d ranges", a, b, len(l))
				}
			}
			Count(a, b)
			r := Range{a, b}
			r.Size()
			for _, i := range numbers {
				if got := Of(i, r) == 0; got != (a <= i && i < b) {
					t.Errorf("Of(%d, %v) = %d", i, r, Of(i, r))
				}
				if got := Covers(i, r); got != (a == 0 && b >= 0 && b == i) {
					t.Errorf("Covers(%d, %v) = %t", i, r, got)
				}
			}
		}
	}
}
