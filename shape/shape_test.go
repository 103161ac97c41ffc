package shape

import (
	"math"
	"math/big"
	"slices"
	"strconv"
	"strings"
	"sync"
	"testing"

	"sakia/api"
	"sakia/part"
)

const (
	top  = math.MaxInt
	low  = math.MinInt
	most = 1 << 20 // the greatest size, and the most parameters
)

// bad has sizes that are out of range.
var bad = []int{0, -1, -2, -most, most + 1, 2 * most, 1 << 32, 1<<32 + 1, -1 << 32, 1 << 62, low, low + 1, top - 1, top}

// beyond has numbers that are neither a link nor a parameter of any shape.
var beyond = []int{-1, -2, -16, -most, most, most + 1, 1 << 32, -1 << 32, 1 << 62, low, low + 1, top - 1, top}

// parameter is what a parameter belongs to, and its name.
type parameter struct {
	k, row, col int
	name        string
}

// parameters returns the parameters of a network one by one, as the chapter lays them out.
func parameters(sizes []int) []parameter {
	var l []parameter
	for k := range len(sizes) - 1 {
		link := strconv.Itoa(k)
		for row := range sizes[k+1] {
			for col := range sizes[k] {
				l = append(l, parameter{k, row, col, "w" + link + "." + strconv.Itoa(row) + "." + strconv.Itoa(col)})
			}
		}
		for row := range sizes[k+1] {
			l = append(l, parameter{k, row, -1, "b" + link + "." + strconv.Itoa(row)})
		}
	}
	return l
}

// names returns the index of each name.
func names(l []parameter) map[string]int {
	m := map[string]int{}
	for i, p := range l {
		m[p.name] = i
	}
	return m
}

// number returns how many parameters there would be, however many.
func number(sizes []int) *big.Int {
	n := new(big.Int)
	for k := range len(sizes) - 1 {
		rows, cols := big.NewInt(int64(sizes[k+1])), big.NewInt(int64(sizes[k]))
		n.Add(n, rows)
		n.Add(n, cols.Mul(cols, rows))
	}
	return n
}

// few returns right sizes with few parameters: all short lists of small sizes, and longer lists with greater ones.
func few() [][]int {
	l := [][]int{
		{2, 3, 1}, {12, 11, 10}, {1, 100}, {100, 1}, {101, 10, 11, 1}, {10, 1, 1, 200}, {1, 1, 1, 1, 1, 9},
		slices.Repeat([]int{1}, api.MaxLayers), slices.Repeat([]int{5}, api.MaxLayers), slices.Repeat([]int{1}, api.MaxLayers-1),
		{1, 2, 3, 4, 5, 6, 7, 8, 9, 10, 11, 12, 13, 14, 15, 16}, {16, 15, 14, 13, 12, 11, 10, 9, 8, 7, 6, 5, 4, 3, 2, 1},
	}
	for a := 1; a < 5; a++ {
		for b := 1; b < 5; b++ {
			l = append(l, []int{a, b})
			for c := 1; c < 5; c++ {
				l = append(l, []int{a, b, c})
				for d := 1; d < 3; d++ {
					l = append(l, []int{a, b, c, d})
				}
			}
		}
	}
	return l
}

// full returns sizes with exactly 2^20 parameters.
func full() [][]int {
	ones := func(n int) []int { return slices.Repeat([]int{1}, n) }
	return [][]int{
		{most - 1, 1}, {1, most / 2}, {1023, 1024}, {3, most / 4}, {most/2 - 1, 2},
		{most - 3, 1, 1}, {1, 349525, 1}, {1, 1, most/2 - 1},
		append([]int{most - 29}, ones(15)...), append(ones(15), most/2-14),
	}
}

// over returns sizes that are in range and have too many parameters, first those with just one too many.
func over() [][]int {
	ones := func(n int) []int { return slices.Repeat([]int{1}, n) }
	return [][]int{
		{most, 1}, {most - 2, 1, 1}, append([]int{most - 28}, ones(15)...), {2, 1, most/2 - 1},
		{1, most}, {1, most/2 + 1}, {1024, 1024}, {1023, 1025}, {most / 2, 2}, {3, most/4 + 1}, {2, 349526}, {1, 349526, 1},
		{most, 1, 1}, {1, most, 1}, {1, 1, most}, {1, most - 1}, {most - 1, 2}, {most, 2}, {most / 2, 1, most / 2},
		append([]int{most}, ones(15)...), append(ones(15), most), slices.Concat(ones(7), []int{most}, ones(8)),
		{most, most}, {most, most, most}, {1 << 16, 1 << 16}, {1 << 16, 1 << 16, 1}, {1, 1 << 16, 1 << 16}, {65535, 1 << 16}, {1 << 17, 1 << 15, 1},
		slices.Repeat([]int{most}, api.MaxLayers), slices.Repeat([]int{1 << 16}, api.MaxLayers), slices.Repeat([]int{65535}, api.MaxLayers), slices.Repeat([]int{300}, api.MaxLayers),
	}
}

// made returns the shape of a network with right sizes.
func made(t *testing.T, sizes ...int) *Shape {
	t.Helper()
	s, code := New(sizes...)
	if s == nil || code != api.OK {
		t.Fatalf("New(%d) = %v, %v", sizes, s, code)
	}
	return s
}

// checkShape tests all that a shape says of its sizes and its parameters.
func checkShape(t *testing.T, s *Shape, sizes []int) {
	t.Helper()
	if got := s.Sizes(); !slices.Equal(got, sizes) {
		t.Fatalf("Sizes of %d = %d", sizes, got)
	}
	if got := s.Links(); got != len(sizes)-1 {
		t.Fatalf("Links of %d = %d", sizes, got)
	}
	all := parameters(sizes)
	if got := s.Count(); got != len(all) {
		t.Fatalf("Count of %d = %d, want %d", sizes, got, len(all))
	}
	for i, p := range all {
		checkPlace(t, s, i, p)
	}
	checkRanges(t, s, all)
}

// checkPlace tests Place, Name and Index of a parameter.
func checkPlace(t *testing.T, s *Shape, i int, p parameter) {
	t.Helper()
	if k, row, col, ok := s.Place(i); k != p.k || row != p.row || col != p.col || !ok {
		t.Fatalf("Place(%d) of %d = %d, %d, %d, %t, want %d, %d, %d, true", i, s.Sizes(), k, row, col, ok, p.k, p.row, p.col)
	}
	if got := s.Name(i); got != p.name {
		t.Fatalf("Name(%d) of %d = %q, want %q", i, s.Sizes(), got, p.name)
	}
	if got, ok := s.Index(p.name); got != i || !ok {
		t.Fatalf("Index(%q) of %d = %d, %t, want %d, true", p.name, s.Sizes(), got, ok, i)
	}
}

// checkRanges tests Weights and Biases of each link by the parameters that they should have.
func checkRanges(t *testing.T, s *Shape, all []parameter) {
	t.Helper()
	for k := range s.Links() {
		var weights, biases []int
		for i, p := range all {
			if p.k == k && p.col >= 0 {
				weights = append(weights, i)
			} else if p.k == k {
				biases = append(biases, i)
			}
		}
		if got := s.Weights(k); !slices.Equal(indices(got), weights) {
			t.Fatalf("Weights(%d) of %d = %v, want %d to %d", k, s.Sizes(), got, weights[0], weights[len(weights)-1])
		}
		if got := s.Biases(k); !slices.Equal(indices(got), biases) {
			t.Fatalf("Biases(%d) of %d = %v, want %d to %d", k, s.Sizes(), got, biases[0], biases[len(biases)-1])
		}
	}
}

// indices returns the indices of a range.
func indices(r part.Range) []int {
	var l []int
	for i := r.Lo; i < r.Hi; i++ {
		l = append(l, i)
	}
	return l
}

// checkNew tests a call of New that fails.
func checkNew(t *testing.T, want api.Code, sizes ...int) {
	t.Helper()
	if s, code := New(sizes...); s != nil || code != want {
		t.Errorf("New(%d) = %v, %v, want nil, %v", sizes, s, code, want)
	}
}

// checkNoParameter tests Place and Name of an index that no parameter has.
func checkNoParameter(t *testing.T, s *Shape, i int) {
	t.Helper()
	if k, row, col, ok := s.Place(i); k != 0 || row != 0 || col != 0 || ok {
		t.Errorf("Place(%d) of %d = %d, %d, %d, %t, want zero values", i, s.Sizes(), k, row, col, ok)
	}
	if got := s.Name(i); got != "" {
		t.Errorf("Name(%d) of %d = %q, want none", i, s.Sizes(), got)
	}
}

// checkNoName tests Index of a text that no parameter has.
func checkNoName(t *testing.T, s *Shape, name string) {
	t.Helper()
	if i, ok := s.Index(name); i != 0 || ok {
		t.Errorf("Index(%.40q) of %d = %d, %t, want 0, false", name, s.Sizes(), i, ok)
	}
}

// with returns a copy of sizes with another one at a place.
func with(sizes []int, at, size int) []int {
	l := slices.Clone(sizes)
	l[at] = size
	return l
}

// roomy returns a copy with other sizes in its memory beyond its length.
func roomy(sizes []int) []int { return append(slices.Clone(sizes), 91, 92, 93, 94)[:len(sizes)] }

// P8.1

func TestNewOfKnownSizes(t *testing.T) {
	for _, c := range []struct {
		sizes []int
		want  int
	}{
		{[]int{2, 3, 1}, 13}, {[]int{1, 1}, 2}, {[]int{1, 1, 1}, 4}, {[]int{3, 2}, 8}, {[]int{2, 3}, 9}, {[]int{4, 5, 6}, 61},
		{slices.Repeat([]int{1}, 16), 30}, {slices.Repeat([]int{2}, 16), 90}, {[]int{784, 128, 10}, 101770}, {[]int{1000, 1000, 40}, 1001000 + 40040},
	} {
		if got := made(t, c.sizes...).Count(); got != c.want {
			t.Errorf("Count of %d = %d, want %d", c.sizes, got, c.want)
		}
	}
}

func TestNewOfRightSizes(t *testing.T) {
	for _, sizes := range few() {
		checkShape(t, made(t, sizes...), sizes)
	}
}

func TestNewOfTheWrongNumberOfSizes(t *testing.T) {
	checkNew(t, api.ErrShape)
	checkNew(t, api.ErrShape, []int{}...)
	for _, size := range append([]int{1, 2, 1000, most - 1, most}, bad...) {
		checkNew(t, api.ErrShape, size)
		for _, n := range []int{17, 18, 32, 64, 1000, 1 << 16} {
			checkNew(t, api.ErrShape, slices.Repeat([]int{size}, n)...)
		}
	}
	for n := range 40 {
		_, code := New(slices.Repeat([]int{3}, n)...)
		if want := n >= 2 && n <= 16; (code == api.OK) != want {
			t.Errorf("New of %d sizes: %v", n, code)
		}
	}
}

func TestNewOfSizesOutOfRange(t *testing.T) {
	for _, sizes := range [][]int{{1, 1}, {2, 3, 1}, {7, 1, 9, 4, 2}, slices.Repeat([]int{1}, 15), slices.Repeat([]int{2}, 16)} {
		for _, size := range bad {
			for at := range sizes {
				checkNew(t, api.ErrShape, with(sizes, at, size)...)
			}
			checkNew(t, api.ErrShape, slices.Repeat([]int{size}, len(sizes))...)
		}
	}
}

func TestNewOfTheLeastAndGreatestSizes(t *testing.T) {
	for _, sizes := range [][]int{{2, 2}, {2, 3, 2}, slices.Repeat([]int{2}, 16)} {
		for at := range sizes {
			least := with(sizes, at, 1)
			checkShape(t, made(t, least...), least)
			// No such layer has few enough weights and biases.
			checkNew(t, api.ErrLong, with(sizes, at, most)...)
			checkNew(t, api.ErrLong, with(slices.Repeat([]int{1}, len(sizes)), at, most)...)
			checkNew(t, api.ErrShape, with(sizes, at, most+1)...)
		}
	}
}

func TestNewOfAsManyParametersAsThereMayBe(t *testing.T) {
	for _, sizes := range full() {
		if got := made(t, sizes...).Count(); got != most {
			t.Errorf("Count of %d = %d, want %d", sizes, got, most)
		}
	}
}

func TestNewOfTooManyParameters(t *testing.T) {
	for i, sizes := range over() {
		if n := number(sizes); n.Cmp(big.NewInt(most)) <= 0 || i < 4 && n.Int64() != most+1 {
			t.Fatalf("%d have %v parameters", sizes, n)
		}
		checkNew(t, api.ErrLong, sizes...)
	}
}

func TestNewAroundTheLimit(t *testing.T) {
	for _, sizes := range full() {
		for at := range sizes {
			for _, change := range []int{-2, -1, 0, 1, 2} {
				l := with(sizes, at, sizes[at]+change)
				if l[at] < 1 || l[at] > most {
					checkNew(t, api.ErrShape, l...)
				} else if n := number(l); n.Cmp(big.NewInt(most)) > 0 {
					checkNew(t, api.ErrLong, l...)
				} else if got := made(t, l...).Count(); int64(got) != n.Int64() {
					t.Errorf("Count of %d = %d, want %v", l, got, n)
				}
			}
		}
	}
}

func TestNewWithBothErrors(t *testing.T) {
	for _, sizes := range over() {
		for _, size := range bad {
			for at := range sizes {
				checkNew(t, api.ErrShape, with(sizes, at, size)...)
			}
			checkNew(t, api.ErrShape, append(slices.Clone(sizes), size)...)
			checkNew(t, api.ErrShape, append([]int{size}, sizes...)...)
		}
		checkNew(t, api.ErrShape, append(sizes, slices.Repeat([]int{1}, 17-len(sizes))...)...)
	}
	checkNew(t, api.ErrShape, slices.Repeat([]int{most}, 17)...)
	checkNew(t, api.ErrShape, most)
}

// P8.2

func TestRangesOfKnownSizes(t *testing.T) {
	s := made(t, 2, 3, 1)
	for k, want := range [][2]part.Range{{{Lo: 0, Hi: 6}, {Lo: 6, Hi: 9}}, {{Lo: 9, Hi: 12}, {Lo: 12, Hi: 13}}} {
		if got := s.Weights(k); got != want[0] {
			t.Errorf("Weights(%d) = %v, want %v", k, got, want[0])
		}
		if got := s.Biases(k); got != want[1] {
			t.Errorf("Biases(%d) = %v, want %v", k, got, want[1])
		}
	}
	if !slices.Equal(s.Sizes(), []int{2, 3, 1}) || s.Links() != 2 || s.Count() != 13 {
		t.Errorf("2, 3, 1: %d, %d, %d", s.Sizes(), s.Links(), s.Count())
	}
}

func TestRangesOfManyParameters(t *testing.T) {
	for _, sizes := range full() {
		s := made(t, sizes...)
		end := 0
		for k := range s.Links() {
			weights := part.Range{Lo: end, Hi: end + sizes[k]*sizes[k+1]}
			biases := part.Range{Lo: weights.Hi, Hi: weights.Hi + sizes[k+1]}
			if s.Weights(k) != weights || s.Biases(k) != biases {
				t.Errorf("link %d of %d: %v, %v, want %v, %v", k, sizes, s.Weights(k), s.Biases(k), weights, biases)
			}
			end = biases.Hi
		}
	}
}

func TestRangesOfNoLink(t *testing.T) {
	for _, sizes := range append(few(), full()...) {
		s := made(t, sizes...)
		for _, k := range append([]int{s.Links(), s.Links() + 1, 2 * s.Links(), s.Count()}, beyond...) {
			if w, b := s.Weights(k), s.Biases(k); w != (part.Range{}) || b != (part.Range{}) {
				t.Errorf("link %d of %d: %v, %v, want zero values", k, sizes, w, b)
			}
		}
	}
}

// P8.3

func TestPlacesOfKnownParameters(t *testing.T) {
	s := made(t, 2, 3, 1)
	for i, want := range []parameter{
		{0, 0, 0, "w0.0.0"}, {0, 0, 1, "w0.0.1"}, {0, 1, 0, "w0.1.0"}, {0, 1, 1, "w0.1.1"}, {0, 2, 0, "w0.2.0"}, {0, 2, 1, "w0.2.1"},
		{0, 0, -1, "b0.0"}, {0, 1, -1, "b0.1"}, {0, 2, -1, "b0.2"}, {1, 0, 0, "w1.0.0"}, {1, 0, 1, "w1.0.1"}, {1, 0, 2, "w1.0.2"}, {1, 0, -1, "b1.0"},
	} {
		checkPlace(t, s, i, want)
	}
}

func TestPlacesOfManyParameters(t *testing.T) {
	for _, c := range []struct {
		sizes []int
		at    []int
		want  []parameter
	}{
		{[]int{most - 1, 1}, []int{0, 1, most - 2, most - 1}, []parameter{{0, 0, 0, "w0.0.0"}, {0, 0, 1, "w0.0.1"}, {0, 0, most - 2, "w0.0.1048574"}, {0, 0, -1, "b0.0"}}},
		{[]int{1, most / 2}, []int{1, most/2 - 1, most / 2, most - 1}, []parameter{{0, 1, 0, "w0.1.0"}, {0, most/2 - 1, 0, "w0.524287.0"}, {0, 0, -1, "b0.0"}, {0, most/2 - 1, -1, "b0.524287"}}},
		{[]int{1023, 1024}, []int{1022, 1023, 1023*1024 - 1, 1023 * 1024, most - 1}, []parameter{{0, 0, 1022, "w0.0.1022"}, {0, 1, 0, "w0.1.0"}, {0, 1023, 1022, "w0.1023.1022"}, {0, 0, -1, "b0.0"}, {0, 1023, -1, "b0.1023"}}},
		{append(slices.Repeat([]int{1}, 15), most/2-14), []int{0, 1, 2, 27, 28, most/2 + 13, most/2 + 14, most - 1}, []parameter{{0, 0, 0, "w0.0.0"}, {0, 0, -1, "b0.0"}, {1, 0, 0, "w1.0.0"}, {13, 0, -1, "b13.0"}, {14, 0, 0, "w14.0.0"}, {14, most/2 - 15, 0, "w14.524273.0"}, {14, 0, -1, "b14.0"}, {14, most/2 - 15, -1, "b14.524273"}}},
	} {
		s := made(t, c.sizes...)
		for j, i := range c.at {
			checkPlace(t, s, i, c.want[j])
		}
		checkNoParameter(t, s, most)
	}
}

func TestFirstAndLastOfEachRange(t *testing.T) {
	for _, sizes := range append(few(), full()...) {
		s := made(t, sizes...)
		for k := range s.Links() {
			link, rows, cols := strconv.Itoa(k), sizes[k+1], sizes[k]
			w, b := s.Weights(k), s.Biases(k)
			row, col := strconv.Itoa(rows-1), strconv.Itoa(cols-1)
			checkPlace(t, s, w.Lo, parameter{k, 0, 0, "w" + link + ".0.0"})
			checkPlace(t, s, w.Hi-1, parameter{k, rows - 1, cols - 1, "w" + link + "." + row + "." + col})
			checkPlace(t, s, b.Lo, parameter{k, 0, -1, "b" + link + ".0"})
			checkPlace(t, s, b.Hi-1, parameter{k, rows - 1, -1, "b" + link + "." + row})
		}
	}
}

func TestPlaceOfNoParameter(t *testing.T) {
	for _, sizes := range append(few(), full()...) {
		s := made(t, sizes...)
		for _, i := range append([]int{s.Count(), s.Count() + 1, 2 * s.Count()}, beyond...) {
			checkNoParameter(t, s, i)
		}
	}
}

// P8.4

func TestIndexOfNoName(t *testing.T) {
	l := []string{
		"", " ", ".", "..", "...", "w", "b", "0", "1", "w0", "b0", "w.", "b.", "w..", "b..", "w0.", "b0.", "w0..", "b0..", "w...", "b.0", "b.0.", "w.0.0", "w..0", "w0..0", "w0.0.", "w..0.0", "w.0.0.0", "b.0.0", "b0..0", "b0.0.",
		"w0.0", "w1.0", "b0.0.0", "b1.0.0", "w0.0.0.0", "w0.0.0.", "b0.0.0.0", "w000", "w00", "b00", "w0.00", "w00.0",
		"0.0.0", "0.0", "w 0.0.0", "x0.0.0", "v0.0", "a0.0", "c0.0", "B0.0", "W0.0.0", "W0.0", "ww0.0.0", "bb0.0", "wb0.0", "bw0.0.0", "ẃ0.0.0", "é0.0", "\xff0.0", "\x000.0",
		"w+0.0.0", "w0.+0.0", "w0.0.+0", "b+0.0", "b0.+0", "w-0.0.0", "w0.-0.0", "w0.0.-0", "b-0.0", "b0.-0", "b0.-1", "w0.0.-1", "w0.-1.0", "w-1.0.0", "b-1.0", "w0.1.-1", "w1.-1.3", "w0.-1.2",
		"w00.0.0", "w0.00.0", "w0.0.00", "b00.0", "b0.00", "w01.0.0", "w0.01.0", "w0.0.01", "b01.0", "b0.01", "b0.02", "b0.000000000000000000000000",
		" w0.0.0", "w0.0.0 ", "w0 .0.0", "w0. 0.0", "w0.0. 0", "w0.0 .0", " b0.0", "b0.0 ", "b0 .0", "b0. 0", "b 0.0", "b0.0\n", "\tb0.0", "b0.0\x00", "b0.0\xff", "w0.0.0\xff",
		"w0.0.0x", "w0.0.0w", "b0.0b", "b0.0x", "w0.0.0,", "w0,0,0", "b0,0", "b0:0", "b0/0", "w0.0.0b0.0", "w0.0.0 w0.0.0",
		"w2.0.0", "b2.0", "w3.0.0", "b3.0", "w10.0.0", "b10.0", "w16.0.0", "w0.3.0", "w0.2.2", "w0.0.2", "w0.1.2", "w0.0.3", "w0.0.6", "w0.0.12", "w0.4.0", "w1.1.0", "w1.0.3", "w1.0.4", "w1.1.2", "b0.3", "b0.4", "b0.6", "b1.1", "b1.2", "w0.10.0", "b0.10",
		"b0x0", "b0x0.0", "b0xa", "b0.1e0", "b0.1_0", "b0._1", "b0.0b1", "b0.0x1", "b0.١", "b٠.0", "w0.0.٠", "b0.０", "b0．0", "b²", "w½",
	}
	for _, great := range []string{"1048575", "1048576", "1048577", "4294967295", "4294967296", "4294967297", "9223372036854775807", "9223372036854775808", "18446744073709551615", "18446744073709551616", "18446744073709551617", "340282366920938463463374607431768211456", strings.Repeat("9", 1000), "1" + strings.Repeat("0", 64)} {
		l = append(l, "w"+great+".0.0", "w0."+great+".0", "w0.0."+great, "b"+great+".0", "b0."+great, "w1.0."+great, "b1."+great, "w"+great+"."+great+"."+great, "b-"+great+".0", "b0.-"+great, "w0.-"+great+"."+great)
	}
	s := made(t, 2, 3, 1)
	for _, name := range l {
		checkNoName(t, s, name)
	}
}

func TestIndexOfAllShortTexts(t *testing.T) {
	const letters = "wb.012"
	for _, sizes := range [][]int{{2, 3, 1}, {1, 1}, {1, 2, 1, 12}} {
		s, want := made(t, sizes...), names(parameters(sizes))
		var check func(text string, left int)
		check = func(text string, left int) {
			if i, ok := want[text]; ok {
				checkIndex(t, s, text, i)
			} else {
				checkNoName(t, s, text)
			}
			for _, r := range letters {
				if left > 0 {
					check(text+string(r), left-1)
				}
			}
		}
		check("", 7)
	}
}

// checkIndex tests Index of a name.
func checkIndex(t *testing.T, s *Shape, name string, want int) {
	t.Helper()
	if i, ok := s.Index(name); i != want || !ok {
		t.Errorf("Index(%q) of %d = %d, %t, want %d, true", name, s.Sizes(), i, ok, want)
	}
}

// changed returns texts that differ from a text at one place.
func changed(text string) []string {
	var l []string
	for at := range len(text) + 1 {
		for _, x := range []string{"0", "1", "2", "9", ".", "w", "b", "W", "B", "-", "+", " ", "x", "_", "\n", "\x00", "\xff", "٠"} {
			l = append(l, text[:at]+x+text[at:])
			if at < len(text) {
				l = append(l, text[:at]+x+text[at+1:])
			}
		}
		l = append(l, text[:at], text[at:])
		if at < len(text) {
			l = append(l, text[:at]+text[at+1:])
		}
	}
	return l
}

func TestIndexOfChangedNames(t *testing.T) {
	for _, sizes := range [][]int{{2, 3, 1}, {12, 11, 10}, {1, 101, 1}, slices.Repeat([]int{2}, 16)} {
		s, all := made(t, sizes...), parameters(sizes)
		want := names(all)
		for _, p := range all {
			for _, name := range changed(p.name) {
				if i, ok := want[name]; ok {
					checkIndex(t, s, name, i)
				} else {
					checkNoName(t, s, name)
				}
			}
		}
	}
}

func TestIndexJustOutside(t *testing.T) {
	for _, sizes := range append(few(), full()...) {
		s := made(t, sizes...)
		for k := range s.Links() {
			link, row, col := strconv.Itoa(k), strconv.Itoa(sizes[k+1]), strconv.Itoa(sizes[k])
			for _, name := range []string{"w" + link + "." + row + ".0", "w" + link + ".0." + col, "w" + link + "." + row + "." + col, "b" + link + "." + row, "w" + link + ".-1." + col, "b" + link + ".-1", "w" + link + ".0.-1"} {
				checkNoName(t, s, name)
			}
		}
		last := strconv.Itoa(s.Links())
		for _, name := range []string{"w" + last + ".0.0", "b" + last + ".0", "w-1.0.0", "b-1.0"} {
			checkNoName(t, s, name)
		}
	}
}

func TestIndexOfLongTexts(t *testing.T) {
	s := made(t, 2, 3, 1)
	for _, part := range []string{"0", "1", "9", ".", "0.", "w", "b", "w0.0.0", "\xff", "٠", " "} {
		long := strings.Repeat(part, 1<<18)
		for _, name := range []string{long, "w" + long, "b" + long, "w0." + long, "b0." + long, "w0.0." + long, "w0.0.0" + long, "b0.0" + long, long + "w0.0.0", long + "0.0"} {
			checkNoName(t, s, name)
		}
	}
}

func TestNamesOfOneShapeInAnother(t *testing.T) {
	for _, a := range few()[:6] {
		for _, b := range few() {
			s, want := made(t, b...), names(parameters(b))
			for _, p := range parameters(a) {
				if i, ok := want[p.name]; ok {
					checkIndex(t, s, p.name, i)
				} else {
					checkNoName(t, s, p.name)
				}
			}
		}
	}
}

// P8.5

func TestIndexInvertsName(t *testing.T) {
	for _, sizes := range append(few(), []int{1023, 1024}, []int{most - 3, 1, 1}, []int{100, 100, 100, 100, 5}) {
		s := made(t, sizes...)
		for i := range s.Count() {
			if got, ok := s.Index(s.Name(i)); got != i || !ok {
				t.Fatalf("Index(%q) of %d = %d, %t, want %d, true", s.Name(i), sizes, got, ok, i)
			}
		}
	}
}

func TestNamesDiffer(t *testing.T) {
	for _, sizes := range append(few(), []int{1023, 1024}) {
		s, seen := made(t, sizes...), map[string]int{}
		for i := range s.Count() {
			name := s.Name(i)
			if other, ok := seen[name]; ok || name == "" {
				t.Fatalf("Name(%d) and Name(%d) of %d are both %q", other, i, sizes, name)
			}
			seen[name] = i
		}
	}
}

func TestEachIndexIsInOneRange(t *testing.T) {
	for _, sizes := range append(few(), full()...) {
		s := made(t, sizes...)
		times := make([]int, s.Count())
		var l []part.Range
		for k := range s.Links() {
			l = append(l, s.Weights(k), s.Biases(k))
			for _, r := range l[2*k:] {
				for i := r.Lo; i < r.Hi; i++ {
					times[i]++
				}
			}
		}
		if slices.ContainsFunc(times, func(n int) bool { return n != 1 }) || !part.Covers(s.Count(), l...) {
			t.Errorf("the ranges of %d are %v", sizes, l)
		}
	}
}

// All of it

func TestNilShape(t *testing.T) {
	var s *Shape
	if l, n, count := s.Sizes(), s.Links(), s.Count(); len(l) != 0 || n != 0 || count != 0 {
		t.Errorf("a nil Shape has %d, %d, %d", l, n, count)
	}
	for _, k := range append([]int{0, 1, 15}, beyond...) {
		if w, b := s.Weights(k), s.Biases(k); w != (part.Range{}) || b != (part.Range{}) {
			t.Errorf("link %d of a nil Shape: %v, %v", k, w, b)
		}
		checkNoParameter(t, s, k)
	}
	for _, name := range []string{"", "w0.0.0", "b0.0", "w", "b", "w1.0.0", "x", "w.."} {
		checkNoName(t, s, name)
	}
}

func TestGivenSizesMayBeChanged(t *testing.T) {
	for _, sizes := range few() {
		given := roomy(sizes)
		s := made(t, given...)
		for i := range given[:cap(given)] {
			given[:cap(given)][i] = 77
		}
		checkShape(t, s, sizes)
	}
}

func TestReturnedSizesMayBeChanged(t *testing.T) {
	for _, sizes := range few() {
		given := roomy(sizes)
		s := made(t, given...)
		first, second := s.Sizes(), s.Sizes()
		for i := range first[:cap(first)] {
			first[:cap(first)][i] = -5
		}
		if !slices.Equal(second, sizes) || !slices.Equal(given[:cap(given)], append(slices.Clone(sizes), 91, 92, 93, 94)[:cap(given)]) {
			t.Fatalf("a change of Sizes changes others to %d, and the argument to %d", second, given)
		}
		_ = append(second, 5)
		checkShape(t, s, sizes)
	}
}

func TestArgumentsAreNotChanged(t *testing.T) {
	l := slices.Concat(few(), full(), over(), [][]int{nil, {}, {1}, {0, 1}, {1, low}, {top, top, 1}, slices.Repeat([]int{most}, 17)})
	for _, sizes := range l {
		given := roomy(sizes)
		was := slices.Clone(given[:cap(given)])
		s, code := New(given...)
		if s == nil {
			if code == api.OK {
				t.Errorf("New(%d) = nil, %v", sizes, code)
			}
		} else {
			s.Sizes()
			s.Place(0)
			s.Index(s.Name(s.Count() - 1))
		}
		if !slices.Equal(given[:cap(given)], was) {
			t.Fatalf("%d were changed to %d", was, given[:cap(given)])
		}
	}
}

func TestCallsChangeNothing(t *testing.T) {
	sizes := []int{2, 3, 1}
	s := made(t, sizes...)
	for range 3 {
		for _, i := range append([]int{0, 7, 12}, beyond...) {
			s.Weights(i)
			s.Biases(i)
			s.Place(i)
			s.Index(s.Name(i))
		}
		s.Index("w9.9.9")
		checkShape(t, s, sizes)
	}
}

func TestShapesAreIndependent(t *testing.T) {
	sizes := roomy([]int{2, 3, 1})
	a, b := made(t, sizes...), made(t, sizes...)
	sizes[1] = 4
	c := made(t, sizes...)
	clear(a.Sizes())
	New(0)
	checkShape(t, a, []int{2, 3, 1})
	checkShape(t, b, []int{2, 3, 1})
	checkShape(t, c, []int{2, 4, 1})
}

// TestCallsWithGoroutines is for go test -race: shapes may share nothing that one of them writes.
func TestCallsWithGoroutines(t *testing.T) {
	sizes := []int{12, 11, 10}
	all := parameters(sizes)
	var group sync.WaitGroup
	for range 4 {
		group.Go(func() {
			for range 5 {
				s, code := New(sizes...)
				if code != api.OK || !slices.Equal(s.Sizes(), sizes) || s.Count() != len(all) {
					t.Errorf("New(%d): %v", sizes, code)
					return
				}
				for i, p := range all {
					if j, ok := s.Index(p.name); s.Name(i) != p.name || j != i || !ok {
						t.Errorf("Name(%d) = %q, Index = %d, %t", i, s.Name(i), j, ok)
					}
				}
			}
		})
	}
	group.Wait()
}
