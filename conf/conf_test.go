package conf

import (
	"math"
	"regexp"
	"runtime"
	"slices"
	"strconv"
	"strings"
	"sync"
	"testing"

	"sakia/api"
	"sakia/deci"
)

const (
	top  = math.MaxInt
	low  = math.MinInt
	most = 1 << 20 // the greatest size and count
)

// negatives has numbers that no field but Rate and Momentum may have.
var negatives = []int{-1, -2, -64, -most, -1 << 32, -1<<32 + 1, low, low + 1, low + most}

// excesses has numbers that are too great for all fields but Rate and Momentum.
var excesses = []int{most + 1, most + 2, 2 * most, 1 << 32, 1<<32 + 1, 1 << 62, top - 1, top}

// integer is a field of a configuration that is an int, with the numbers that are right for it.
type integer struct {
	word   string
	of     func(c *api.Config) *int
	lo, hi int
	code   api.Code // of numbers that are not right
}

// integers returns the fields that are ints. Batch is here for the configuration of plain, which has two workers.
func integers() []integer {
	return []integer{
		{"workers", func(c *api.Config) *int { return &c.Workers }, 1, 64, api.ErrWorkers},
		{"shift", func(c *api.Config) *int { return &c.Shift }, 1, 62, api.ErrShift},
		{"micros", func(c *api.Config) *int { return &c.Micros }, 1, most, api.ErrRange},
		{"bucket", func(c *api.Config) *int { return &c.Bucket }, 1, most, api.ErrRange},
		{"chunk", func(c *api.Config) *int { return &c.Chunk }, 1, most, api.ErrRange},
		{"window", func(c *api.Config) *int { return &c.Window }, 1, most, api.ErrRange},
		{"capacity", func(c *api.Config) *int { return &c.Capacity }, 1, most, api.ErrRange},
		{"steps", func(c *api.Config) *int { return &c.Steps }, 0, most, api.ErrRange},
		{"batch", func(c *api.Config) *int { return &c.Batch }, 2, most, api.ErrBatch},
	}
}

// plain returns a right configuration, all of whose numbers are different, with some changes.
func plain(changes ...func(c *api.Config)) api.Config {
	c := api.Config{Sizes: []int{2, 3, 1}, Shift: 8, Rate: 128, Momentum: -65, Workers: 2, Batch: 5, Micros: 4, Steps: 10, Bucket: 6, Chunk: 7, Window: 9, Capacity: 11}
	for _, change := range changes {
		change(&c)
	}
	return c
}

// sized returns a configuration with some sizes.
func sized(sizes ...int) api.Config { return plain(func(c *api.Config) { c.Sizes = sizes }) }

// fill returns a list of the same number.
func fill(x, n int) []int { return slices.Repeat([]int{x}, n) }

// replaced returns a list with another number at a place.
func replaced(l []int, at, x int) []int {
	l = slices.Clone(l)
	l[at] = x
	return l
}

// brims returns sizes with exactly 2^20 parameters.
func brims() [][]int {
	return [][]int{{most - 1, 1}, {1, most / 2}, {1023, 1024}, {3, most / 4}, {most - 3, 1, 1}, {1, 349525, 1}, append([]int{most - 29}, fill(1, 15)...), append(fill(1, 15), most/2-14)}
}

// spills returns sizes with one parameter too many, and with many more.
func spills() [][]int {
	return [][]int{{most, 1}, {most - 2, 1, 1}, append([]int{most - 28}, fill(1, 15)...), {2, 1, most/2 - 1}, {1, most}, {1, most, 1}, {1024, 1024}, {most, most}, {1 << 16, 1 << 16}, {1 << 16, 1 << 16, 1}, fill(most, 16), fill(1<<16, 16)}
}

// codeOf returns the code that a configuration should have, by the chapter's own words.
func codeOf(c api.Config) api.Code {
	if c.Workers < 1 || 64 < c.Workers {
		return api.ErrWorkers
	}
	if c.Shift < 1 || 62 < c.Shift {
		return api.ErrShift
	}
	if len(c.Sizes) < 2 || 16 < len(c.Sizes) || slices.Min(c.Sizes) < 1 || most < slices.Max(c.Sizes) {
		return api.ErrShape
	}
	// Sums and products of floats are exact up to 2^53; above, they are still great.
	parameters := 0.0
	for k, rows := range c.Sizes[1:] {
		parameters += float64(rows) * (float64(c.Sizes[k]) + 1)
	}
	if parameters > most {
		return api.ErrLong
	}
	five := []int{c.Micros, c.Bucket, c.Chunk, c.Window, c.Capacity}
	if slices.Min(five) < 1 || most < slices.Max(five) || c.Steps < 0 || most < c.Steps {
		return api.ErrRange
	}
	if c.Batch < c.Workers || most < c.Batch {
		return api.ErrBatch
	}
	return api.OK
}

// fault makes a configuration wrong.
type fault struct {
	code   api.Code
	change func(c *api.Config)
}

// faults returns changes that make a configuration wrong, those of each code in one list, in the order of the codes.
func faults() [][]fault {
	l := make([][]fault, 5)
	add := func(at int, code api.Code, change func(c *api.Config)) { l[at] = append(l[at], fault{code, change}) }
	for _, f := range integers() {
		at := slices.Index([]api.Code{api.ErrWorkers, api.ErrShift, api.ErrShape, api.ErrRange, api.ErrBatch}, f.code)
		for _, x := range []int{-1, f.lo - 1, low, f.hi + 1, top} {
			if f.code == api.ErrBatch && x == f.lo-1 {
				x = 0 // since there may be only one worker
			}
			add(at, f.code, func(c *api.Config) { *f.of(c) = x })
		}
	}
	for _, s := range [][]int{nil, {}, {3}, fill(1, 17), {0, 1}, {1, 0}, {1, -1, 1}, {most + 1, 1}, {1, top}, {low, 1}} {
		add(2, api.ErrShape, func(c *api.Config) { c.Sizes = s })
	}
	for _, s := range spills() {
		add(2, api.ErrLong, func(c *api.Config) { c.Sizes = s })
	}
	return l
}

// right returns right configurations.
func right() []api.Config {
	l := []api.Config{
		plain(),
		plain(func(c *api.Config) { c.Workers, c.Batch = 1, 1 }),
		plain(func(c *api.Config) { c.Workers, c.Batch = 64, 64 }),
		plain(func(c *api.Config) { c.Workers, c.Batch = 64, most }),
		plain(func(c *api.Config) { c.Rate, c.Momentum = 0, 0 }),
		plain(func(c *api.Config) { c.Rate, c.Momentum = math.MaxInt64, math.MinInt64 }),
		plain(func(c *api.Config) { c.Rate, c.Momentum = math.MinInt64, math.MaxInt64 }),
		{Sizes: []int{1, 1}, Shift: 1, Workers: 1, Batch: 1, Micros: 1, Bucket: 1, Chunk: 1, Window: 1, Capacity: 1},
		{Sizes: []int{1, most / 2}, Shift: 62, Workers: 64, Batch: most, Micros: most, Steps: most, Bucket: most, Chunk: most, Window: most, Capacity: most},
	}
	for _, s := range append(brims(), []int{1, 1}, []int{7, 5}, fill(1, 3), fill(1, 15), fill(1, 16), fill(9, 16)) {
		l = append(l, sized(s...))
	}
	for _, f := range integers() {
		for _, x := range []int{f.lo, f.lo + 1, f.hi - 1, f.hi} {
			l = append(l, plain(func(c *api.Config) {
				*f.of(c) = x
				c.Batch = max(c.Batch, c.Workers)
			}))
		}
	}
	return l
}

// wrong returns configurations that are not right.
func wrong() []api.Config {
	l := []api.Config{{}}
	for _, same := range faults() {
		for _, f := range same {
			l = append(l, plain(f.change))
		}
	}
	return l
}

// spacious returns a copy of a list that has more memory than it needs, with other numbers in it.
func spacious[T any](l []T, more ...T) []T {
	return slices.Concat(l, more)[: len(l) : len(l)+len(more)]
}

func checkCode(t *testing.T, c api.Config, want api.Code) {
	t.Helper()
	if code := Check(c); code != want {
		t.Errorf("Check(%v) = %v, want %v", c, code, want)
	}
}

// P11.1

func TestCheckOfRightConfigurations(t *testing.T) {
	for _, c := range right() {
		checkCode(t, c, api.OK)
	}
}

func TestCheckOfTheZeroConfiguration(t *testing.T) { checkCode(t, api.Config{}, api.ErrWorkers) }

func TestCheckOfEachInteger(t *testing.T) {
	for _, f := range integers() {
		for _, x := range slices.Concat(negatives, excesses, []int{0, 1, 2, 3, 31, 32, 61, 62, 63, 64, 65, 66, 1000, most - 1, most}) {
			want := f.code
			if x >= f.lo && x <= f.hi {
				want = api.OK
			}
			c := plain(func(c *api.Config) { *f.of(c) = x })
			if f.word == "workers" {
				c.Batch = most
			}
			checkCode(t, c, want)
		}
	}
}

func TestCheckOfBatchAndWorkers(t *testing.T) {
	for workers := 1; workers <= 64; workers++ {
		for _, k := range []struct {
			batch int
			code  api.Code
		}{
			{low, api.ErrBatch}, {-1, api.ErrBatch}, {0, api.ErrBatch}, {-workers, api.ErrBatch}, {workers - 1, api.ErrBatch},
			{workers, api.OK}, {workers + 1, api.OK}, {2 * workers, api.OK}, {most, api.OK},
			{most + 1, api.ErrBatch}, {1<<32 + workers, api.ErrBatch}, {top, api.ErrBatch},
		} {
			checkCode(t, plain(func(c *api.Config) { c.Workers, c.Batch = workers, k.batch }), k.code)
		}
	}
}

func TestCheckOfNumbersOfSizes(t *testing.T) {
	checkCode(t, sized(), api.ErrShape)
	checkCode(t, sized([]int{}...), api.ErrShape)
	for n := range 20 {
		want := api.ErrShape
		if n >= 2 && n <= 16 {
			want = api.OK
		}
		checkCode(t, sized(fill(1, n)...), want)
		checkCode(t, sized(fill(3, n)...), want)
	}
	checkCode(t, sized(fill(1, most)...), api.ErrShape)
	checkCode(t, sized(spacious([]int{1}, 1, 1)...), api.ErrShape)
	checkCode(t, sized(spacious(fill(1, 16), 1)...), api.OK)
}

func TestCheckOfASizeAtEachPlace(t *testing.T) {
	for n := 2; n <= 17; n++ {
		for at := range n {
			for _, x := range slices.Concat(negatives, excesses, []int{0}) {
				checkCode(t, sized(replaced(fill(1, n), at, x)...), api.ErrShape)
			}
			for _, x := range []int{most, most - 1, 1, 2, 300} {
				c := sized(replaced(fill(1, n), at, x)...)
				checkCode(t, c, codeOf(c))
			}
		}
	}
	for at := range 3 {
		checkCode(t, sized(replaced(fill(1, 3), at, most)...), api.ErrLong)
	}
	checkCode(t, sized(0, most, most), api.ErrShape)
	checkCode(t, sized(most, most, 0), api.ErrShape)
	checkCode(t, sized(most, most+1, most), api.ErrShape)
}

func TestCheckOfTheNumberOfParameters(t *testing.T) {
	for _, s := range brims() {
		checkCode(t, sized(s...), api.OK)
	}
	for _, s := range spills() {
		checkCode(t, sized(s...), api.ErrLong)
	}
}

func TestCheckReturnsTheFirstCode(t *testing.T) {
	all := faults()
	for set := range 1 << len(all) {
		for seed := range 20 {
			var changes []func(c *api.Config)
			want := api.OK
			for at, same := range all {
				if set>>at&1 == 0 {
					continue
				}
				f := same[(seed*7+at)%len(same)]
				changes = append(changes, f.change)
				if want == api.OK {
					want = f.code
				}
			}
			checkCode(t, plain(changes...), want)
		}
	}
}

func TestCheckOfEachPairOfFaults(t *testing.T) {
	all := faults()
	for at, first := range all {
		for _, later := range all[at+1:] {
			for _, f := range first {
				for _, g := range later {
					checkCode(t, plain(f.change, g.change), f.code)
				}
			}
		}
	}
}

func TestCheckOfWorkersOutOfRangeWhateverElseIsWrong(t *testing.T) {
	for _, workers := range []int{0, -1, 65, low, top} {
		for _, c := range append(wrong(), right()...) {
			c.Workers = workers
			checkCode(t, c, api.ErrWorkers)
		}
	}
}

func TestCheckOfManyConfigurations(t *testing.T) {
	edges := []int{-1, 0, 1, 64, most, most + 1}
	for _, workers := range []int{0, 1, 2, 64, 65} {
		for _, shift := range []int{0, 1, 62, 63} {
			for _, s := range [][]int{nil, {1}, {1, 1}, {2, 0, 1}, {most - 1, 1}, {most, 1}, fill(2, 16), fill(2, 17)} {
				for _, n := range edges {
					for at := range 5 {
						for _, steps := range edges {
							for _, batch := range edges {
								five := replaced(fill(1, 5), at, n)
								c := api.Config{Sizes: s, Shift: shift, Workers: workers, Batch: batch, Steps: steps, Micros: five[0], Bucket: five[1], Chunk: five[2], Window: five[3], Capacity: five[4]}
								checkCode(t, c, codeOf(c))
							}
						}
					}
				}
			}
		}
	}
}

// parameters returns how many parameters a network has.
func parameters(sizes []int) int {
	n := 0
	for k, rows := range sizes[1:] {
		n += rows*sizes[k] + rows
	}
	return n
}

// epochsOf counts the epochs of a run step by step.
func epochsOf(steps, batch, n int) int {
	epochs, left := 0, 0
	for range steps {
		if left < batch {
			epochs++
			left = n
		}
		left -= batch
	}
	return epochs
}

// inputFor returns a right input with n examples, if the configuration is right and n in range. All examples share their memory.
func inputFor(c api.Config, n int) api.Input {
	e := api.Example{X: make([]int64, c.Sizes[0]), Y: make([]int64, c.Sizes[len(c.Sizes)-1])}
	return api.Input{
		Config: c,
		Data:   slices.Repeat([]api.Example{e}, n),
		Start:  make([]int64, parameters(c.Sizes)),
		Draws:  make([]uint64, epochsOf(c.Steps, c.Batch, n)*max(n-1, 0)),
	}
}

func checkInput(t *testing.T, what string, in api.Input, want api.Code) {
	t.Helper()
	if code := Input(in); code != want {
		t.Errorf("%s: Input of %v, %d examples, %d numbers, %d draws = %v, want %v", what, in.Config, len(in.Data), len(in.Start), len(in.Draws), code, want)
	}
}

func TestInputOfRightInputs(t *testing.T) {
	for _, c := range right() {
		if c.Batch > 1000 || c.Steps > 1000 {
			continue
		}
		for _, n := range []int{c.Batch, c.Batch + 1, 2*c.Batch - 1, 2 * c.Batch, 100} {
			checkInput(t, "right", inputFor(c, n), api.OK)
		}
	}
	for _, steps := range []int{0, 1} {
		c := plain(func(c *api.Config) { c.Batch, c.Steps = most, steps })
		checkInput(t, "the greatest batch", inputFor(c, most), api.OK)
		checkInput(t, "the greatest batch, few examples", inputFor(c, 1), api.ErrBatch)
	}
}

func TestInputOfWrongConfigurations(t *testing.T) {
	in := inputFor(plain(), 20)
	for _, c := range wrong() {
		in.Config = c
		checkInput(t, "all else right", in, codeOf(c))
		checkInput(t, "nothing else", api.Input{Config: c}, codeOf(c))
		checkInput(t, "all else wrong", api.Input{Config: c, Data: make([]api.Example, 2), Start: make([]int64, 1)}, codeOf(c))
	}
	checkInput(t, "zero", api.Input{}, api.ErrWorkers)
}

func TestInputOfNumbersOfExamples(t *testing.T) {
	for _, batch := range []int{2, 3, 5, 100} {
		c := plain(func(c *api.Config) { c.Batch = batch })
		for n := range batch + 20 {
			want := api.ErrBatch
			if n >= batch {
				want = api.OK
			}
			checkInput(t, "examples", inputFor(c, n), want)
		}
		in := inputFor(c, 0)
		for _, none := range [][]api.Example{nil, {}, spacious(nil, in.Data...)} {
			in.Data = none
			checkInput(t, "no examples", in, api.ErrBatch)
		}
	}
	one := plain(func(c *api.Config) { c.Workers, c.Batch = 1, 1 })
	checkInput(t, "one example", inputFor(one, 1), api.OK)
	checkInput(t, "no example", inputFor(one, 0), api.ErrBatch)
}

func TestInputOfManyExamples(t *testing.T) {
	c := plain(func(c *api.Config) { c.Steps = 3 })
	checkInput(t, "as many as there may be", inputFor(c, most), api.OK)
	checkInput(t, "one too many", inputFor(c, most+1), api.ErrBatch)
	in := inputFor(c, 2*most)
	in.Data[0] = api.Example{}
	checkInput(t, "far too many, and wrong", in, api.ErrBatch)
}

func TestInputOfExamplesInMoreMemory(t *testing.T) {
	in := inputFor(plain(), 7)
	in.Data = spacious(in.Data[:4], in.Data[4:]...)
	checkInput(t, "fewer than the batch", in, api.ErrBatch)
	in.Data = spacious(inputFor(plain(), 5).Data, api.Example{})
	checkInput(t, "a wrong one beyond the length", in, api.OK)
}

func TestInputOfAWrongExampleAtEachPlace(t *testing.T) {
	example := func(in, out int) api.Example { return api.Example{X: make([]int64, in), Y: make([]int64, out)} }
	for _, s := range [][]int{{2, 3, 1}, {1, 2}, {3, 3}, {4, 1, 1, 4}} {
		c := sized(s...)
		first, last := s[0], s[len(s)-1]
		for _, n := range []int{5, 8} {
			for i := range n {
				for _, e := range []api.Example{
					{}, example(first-1, last), example(first+1, last), example(0, last),
					example(first, last-1), example(first, last+1), example(first, 0),
					example(first+1, last-1), example(first-1, last+1), example(first+1, last+1), example(first-1, last-1),
				} {
					in := inputFor(c, n)
					in.Data[i] = e
					checkInput(t, "a wrong example", in, api.ErrShape)
					in.Data[i].X, in.Data[i].Y = spacious(e.X, 1, 1, 1, 1), spacious(e.Y, 1, 1, 1, 1)
					checkInput(t, "a wrong example in more memory", in, api.ErrShape)
				}
			}
		}
	}
	in := inputFor(plain(), most)
	in.Data[most-1].Y = nil
	checkInput(t, "the last one of many", in, api.ErrShape)
}

func TestInputOfExamplesTheOtherWayRound(t *testing.T) {
	in := inputFor(sized(2, 3, 1), 5)
	in.Config.Sizes = []int{1, 3, 2}
	in.Start = make([]int64, parameters(in.Config.Sizes))
	checkInput(t, "outputs as inputs", in, api.ErrShape)
	in = inputFor(sized(2, 3, 1), 5)
	for i := range in.Data {
		in.Data[i].Y = make([]int64, 3)
	}
	checkInput(t, "as many outputs as a middle layer", in, api.ErrShape)
}

func TestInputOfStart(t *testing.T) {
	for _, c := range []api.Config{plain(), sized(1, 1), sized(1023, 1024), sized(fill(2, 16)...)} {
		in := inputFor(c, 5)
		n := len(in.Start)
		for _, k := range []int{0, 1, n - 2, n - 1, n + 1, n + 2, 2 * n, n + most} {
			if k == n {
				continue
			}
			in.Start = make([]int64, k)
			checkInput(t, "numbers at the start", in, api.ErrShape)
		}
		in.Start = nil
		checkInput(t, "no numbers", in, api.ErrShape)
		in.Start = make([]int64, n)[:n-1]
		checkInput(t, "one in more memory", in, api.ErrShape)
		in.Start = make([]int64, n+1)[:n]
		checkInput(t, "as many in more memory", in, api.OK)
	}
}

func TestInputOfNumbers(t *testing.T) {
	in := inputFor(plain(), 5)
	for _, x := range []int64{math.MinInt64, math.MaxInt64, -1, 1} {
		in.Data[0].X[0], in.Data[0].Y[0], in.Start[3] = x, x, x
		in.Draws[1] = uint64(x)
		checkInput(t, "any numbers", in, api.OK)
	}
}

func TestInputOfDraws(t *testing.T) {
	for _, c := range right() {
		if c.Batch > 1000 || c.Steps > 1000 {
			continue
		}
		for _, n := range []int{c.Batch, c.Batch + 1, 64, 101} {
			if n < c.Batch {
				continue
			}
			in := inputFor(c, n)
			need := len(in.Draws)
			for _, k := range []int{0, 1, need / 2, need - n, need - 2, need - 1, need, need + 1, 2 * need, need + 1000} {
				if k < 0 {
					continue
				}
				in.Draws = spacious(make([]uint64, k), 1, 2, 3)
				want := api.ErrDraws
				if k >= need {
					want = api.OK
				}
				checkInput(t, "draws", in, want)
			}
		}
	}
}

func TestInputThatNeedsNoDraws(t *testing.T) {
	in := inputFor(plain(func(c *api.Config) { c.Steps = 0 }), 50)
	in.Draws = nil
	checkInput(t, "no steps", in, api.OK)
	in = inputFor(plain(func(c *api.Config) { c.Workers, c.Batch, c.Steps = 1, 1, most }), 1)
	in.Draws = nil
	checkInput(t, "one example", in, api.OK)
}

func TestInputThatNeedsMoreDrawsThanCanBe(t *testing.T) {
	in := inputFor(plain(func(c *api.Config) { c.Steps = 1 }), most)
	in.Config.Steps = most
	checkInput(t, "draws of one epoch of many", in, api.ErrDraws)
	in.Config.Batch = most
	checkInput(t, "an epoch for each step", in, api.ErrDraws)
}

func TestInputReturnsTheFirstCode(t *testing.T) {
	few := func(in *api.Input) { in.Data = in.Data[:4] }
	faults := []struct {
		code   api.Code
		change func(in *api.Input)
	}{
		{api.ErrShape, func(in *api.Input) { in.Data[0] = api.Example{} }},
		{api.ErrShape, func(in *api.Input) { in.Data[3].X = in.Data[3].X[1:] }},
		{api.ErrShape, func(in *api.Input) { in.Start = nil }},
		{api.ErrShape, func(in *api.Input) { in.Start = append(in.Start, 0) }},
		{api.ErrDraws, func(in *api.Input) { in.Draws = in.Draws[1:] }},
		{api.ErrDraws, func(in *api.Input) { in.Draws = nil }},
	}
	for i, f := range faults {
		for _, g := range faults[i:] {
			in := inputFor(plain(), 10)
			f.change(&in)
			g.change(&in)
			checkInput(t, "two faults", in, f.code)
			few(&in)
			checkInput(t, "two faults and too few examples", in, api.ErrBatch)
			in.Config.Batch = 1
			checkInput(t, "and a small batch", in, api.ErrBatch)
			in.Config.Capacity = 0
			checkInput(t, "and no capacity", in, api.ErrRange)
			in.Config.Shift = 0
			checkInput(t, "and no shift", in, api.ErrShift)
		}
	}
}

// P11.2

func checkEpochs(t *testing.T, c api.Config, n, want int) {
	t.Helper()
	if got := Epochs(c, n); got != want {
		t.Errorf("Epochs(%v, %d) = %d, want %d", c, n, got, want)
	}
	if got := Need(c, n); got != want*max(n-1, 0) {
		t.Errorf("Need(%v, %d) = %d with %d epochs", c, n, got, want)
	}
}

// steps returns a configuration with some steps and a batch, and one worker.
func steps(steps, batch int) api.Config {
	return plain(func(c *api.Config) { c.Workers, c.Steps, c.Batch = 1, steps, batch })
}

func TestEpochsOfKnownRuns(t *testing.T) {
	for _, k := range []struct{ steps, batch, n, epochs int }{
		{0, 5, 5, 0}, {1, 5, 5, 1}, {2, 5, 5, 2}, {10, 5, 5, 10},
		{1, 5, 9, 1}, {2, 5, 9, 2}, {1, 5, 10, 1}, {2, 5, 10, 1}, {3, 5, 10, 2}, {4, 5, 14, 2}, {5, 5, 14, 3},
		{0, 1, 1, 0}, {1, 1, 1, 1}, {7, 1, 1, 7}, {7, 1, 7, 1}, {8, 1, 7, 2}, {14, 1, 7, 2}, {15, 1, 7, 3},
		{most, 1, most, 1}, {most, 2, most, 2}, {most, most, most, most}, {most, most - 1, most, most}, {most, most/2 + 1, most, most},
		{most, most / 2, most, most / 2}, {most, 3, most, 4}, {0, most, most, 0}, {1, 1, most, 1}, {most, 1, 1, most}, {most, 1, 2, most / 2},
		{most - 1, 1, most - 1, 1}, {most, 1, most - 1, 2},
	} {
		checkEpochs(t, steps(k.steps, k.batch), k.n, k.epochs)
	}
	if got := Need(steps(most, most), most); got != most*(most-1) {
		t.Errorf("Need = %d", got)
	}
	if got := Need(plain(), 23); got != 3*22 {
		t.Errorf("Need = %d", got)
	}
}

func TestEpochsStepByStep(t *testing.T) {
	for batch := 1; batch < 9; batch++ {
		for n := batch; n < 30; n++ {
			for s := range 40 {
				checkEpochs(t, steps(s, batch), n, epochsOf(s, batch, n))
			}
		}
	}
}

func TestEpochsOfFullEpochsAndOneStepMore(t *testing.T) {
	for _, n := range []int{5, 6, 9, 10, 100, 1000, most} {
		for _, batch := range []int{2, 3, 4, 5} {
			inEpoch := n / batch
			for epochs := 1; epochs*inEpoch < most && epochs < 5; epochs++ {
				checkEpochs(t, steps(epochs*inEpoch, batch), n, epochs)
				checkEpochs(t, steps(epochs*inEpoch+1, batch), n, epochs+1)
				checkEpochs(t, steps(epochs*inEpoch-1, batch), n, (epochs*inEpoch-1+inEpoch-1)/inEpoch)
			}
		}
	}
}

func TestEpochsOfNumbersOutOfRange(t *testing.T) {
	for _, batch := range []int{2, 3, 5, 64, 1000, most - 1, most} {
		c := plain(func(c *api.Config) { c.Batch = batch })
		for _, n := range slices.Concat(negatives, excesses, []int{0, 1, batch - 1, -batch}) {
			checkEpochs(t, c, n, 0)
		}
		checkEpochs(t, c, batch, 10)
		checkEpochs(t, c, most, (10+most/batch-1)/(most/batch))
	}
	checkEpochs(t, steps(3, 1), 0, 0)
	checkEpochs(t, steps(3, 1), 1, 3)
}

func TestEpochsOfWrongConfigurations(t *testing.T) {
	for _, c := range wrong() {
		for _, n := range []int{low, -1, 0, 1, 5, 64, 100, most, most + 1, top} {
			checkEpochs(t, c, n, 0)
		}
	}
}

func TestEpochsOfRightConfigurations(t *testing.T) {
	for _, c := range right() {
		for _, n := range []int{1, 2, 5, 63, 64, 65, most - 1, most} {
			if n < c.Batch {
				checkEpochs(t, c, n, 0)
			} else {
				checkEpochs(t, c, n, epochsOf(c.Steps, c.Batch, n))
			}
		}
	}
}

// P11.3

// equal compares all fields, one by one.
func equal(a, b api.Config) bool {
	for _, f := range integers() {
		if *f.of(&a) != *f.of(&b) {
			return false
		}
	}
	return a.Rate == b.Rate && a.Momentum == b.Momentum && slices.Equal(a.Sizes, b.Sizes)
}

// textOf returns the text that a configuration has, if it has one.
func textOf(c api.Config) string {
	var l []string
	for _, n := range c.Sizes {
		l = append(l, strconv.Itoa(n))
	}
	s := "sizes " + strings.Join(l, ",") + " shift " + strconv.Itoa(c.Shift)
	s += " rate " + deci.Text(c.Rate, c.Shift) + " momentum " + deci.Text(c.Momentum, c.Shift)
	s += " workers " + strconv.Itoa(c.Workers) + " batch " + strconv.Itoa(c.Batch) + " micros " + strconv.Itoa(c.Micros)
	s += " steps " + strconv.Itoa(c.Steps) + " bucket " + strconv.Itoa(c.Bucket) + " chunk " + strconv.Itoa(c.Chunk)
	return s + " window " + strconv.Itoa(c.Window) + " capacity " + strconv.Itoa(c.Capacity)
}

// pattern has all texts of configurations, and some others: with numbers that are too great, and with faulty rates and momenta.
var pattern = regexp.MustCompile(strings.ReplaceAll(
	`\Asizes ((?:N,)*N) shift (N) rate (\S*) momentum (\S*) workers (N) batch (N) micros (N) steps (N) bucket (N) chunk (N) window (N) capacity (N)\z`,
	"N", "(?:0|[1-9][0-9]{0,6})"))

// configOf returns the configuration that has a text, if there is one.
func configOf(s string) (api.Config, bool) {
	found := pattern.FindStringSubmatch(s)
	if found == nil {
		return api.Config{}, false
	}
	var c api.Config
	fine := true
	number := func(s string) int {
		n, err := strconv.Atoi(s)
		fine = fine && err == nil && n <= most
		return n
	}
	for _, s := range strings.Split(found[1], ",") {
		c.Sizes = append(c.Sizes, number(s))
	}
	c.Shift = number(found[2])
	rate, ok := deci.Parse(found[3], c.Shift)
	momentum, is := deci.Parse(found[4], c.Shift)
	c.Rate, c.Momentum = rate, momentum
	for i, n := range []*int{&c.Workers, &c.Batch, &c.Micros, &c.Steps, &c.Bucket, &c.Chunk, &c.Window, &c.Capacity} {
		*n = number(found[5+i])
	}
	if !fine || !ok || !is || c.Shift > 62 {
		return api.Config{}, false
	}
	return c, true
}

// texts has configurations with their texts, which are written out here.
var texts = []struct {
	c    api.Config
	text string
}{
	{
		api.Config{Sizes: []int{2, 3, 1}, Shift: 8, Rate: 128, Momentum: -65, Workers: 2, Batch: 5, Micros: 4, Steps: 10, Bucket: 6, Chunk: 7, Window: 9, Capacity: 11},
		"sizes 2,3,1 shift 8 rate 0.5 momentum -0.25390625 workers 2 batch 5 micros 4 steps 10 bucket 6 chunk 7 window 9 capacity 11",
	},
	{
		api.Config{Sizes: []int{0}},
		"sizes 0 shift 0 rate 0 momentum 0 workers 0 batch 0 micros 0 steps 0 bucket 0 chunk 0 window 0 capacity 0",
	},
	{
		api.Config{Sizes: []int{1048576, 0, 1048576}, Shift: 62, Rate: math.MinInt64, Momentum: 1 << 62, Workers: 1048576, Batch: 1048576, Micros: 1048576, Steps: 1048576, Bucket: 1048576, Chunk: 1048576, Window: 1048576, Capacity: 1048576},
		"sizes 1048576,0,1048576 shift 62 rate -2 momentum 1 workers 1048576 batch 1048576 micros 1048576 steps 1048576 bucket 1048576 chunk 1048576 window 1048576 capacity 1048576",
	},
	{
		api.Config{Sizes: []int{7}, Rate: math.MinInt64, Momentum: math.MaxInt64, Workers: 3, Capacity: 10},
		"sizes 7 shift 0 rate -9223372036854775808 momentum 9223372036854775807 workers 3 batch 0 micros 0 steps 0 bucket 0 chunk 0 window 0 capacity 10",
	},
	{
		api.Config{Sizes: []int{1, 2}, Shift: 1, Rate: 1, Momentum: -1, Workers: 1, Batch: 2, Micros: 3, Steps: 4, Bucket: 5, Chunk: 6, Window: 7, Capacity: 8},
		"sizes 1,2 shift 1 rate 0.5 momentum -0.5 workers 1 batch 2 micros 3 steps 4 bucket 5 chunk 6 window 7 capacity 8",
	},
	{
		api.Config{Sizes: []int{5, 5}, Shift: 62, Rate: 1, Momentum: -1, Workers: 1, Batch: 1, Micros: 1, Steps: 1, Bucket: 1, Chunk: 1, Window: 1, Capacity: 1},
		"sizes 5,5 shift 62 rate 0.00000000000000000021684043449710088680149056017398834228515625 momentum -0.00000000000000000021684043449710088680149056017398834228515625 workers 1 batch 1 micros 1 steps 1 bucket 1 chunk 1 window 1 capacity 1",
	},
}

// written returns configurations that have a text, right ones and others.
func written() []api.Config {
	l := right()
	for _, k := range texts {
		l = append(l, k.c)
	}
	for _, f := range integers() {
		hi := most
		if f.word == "shift" {
			hi = 62
		}
		for _, x := range []int{0, 1, 9, 10, 62, hi - 1, hi} {
			l = append(l, plain(func(c *api.Config) { *f.of(c) = x }))
		}
	}
	for shift := range 63 {
		for _, x := range []int64{0, 1, -1, 3, -1000, 1 << 62, math.MinInt64, math.MaxInt64} {
			l = append(l, plain(func(c *api.Config) { c.Shift, c.Rate, c.Momentum = shift, x, -x/3 }))
		}
	}
	for _, s := range append(spills(), []int{0}, []int{1}, []int{most}, []int{0, 0}, []int{1, 0}, []int{0, most}, fill(0, 17), fill(3, 1000)) {
		l = append(l, sized(s...))
	}
	return l
}

// unwritten returns configurations that have no text.
func unwritten() []api.Config {
	l := []api.Config{{}, sized(), sized([]int{}...), sized(fill(1, 3)[:0]...), {Shift: 63, Sizes: []int{1, 1}}, {Sizes: []int{-1}}}
	outside := slices.Concat(negatives, excesses)
	for _, f := range integers() {
		for _, x := range outside {
			l = append(l, plain(func(c *api.Config) { *f.of(c) = x }))
		}
	}
	for _, x := range []int{63, 64, 65, 127, 128, most} {
		l = append(l, plain(func(c *api.Config) { c.Shift = x }), plain(func(c *api.Config) { c.Shift, c.Rate, c.Momentum = x, 0, 0 }))
	}
	for _, n := range []int{1, 2, 3, 20} {
		for at := range n {
			for _, x := range outside {
				l = append(l, sized(replaced(fill(1, n), at, x)...))
			}
		}
	}
	return l
}

func checkText(t *testing.T, c api.Config, want string) {
	t.Helper()
	if s, ok := Text(c); s != want || ok != (want != "") {
		t.Errorf("Text(%v) = %.500q, %t, want %.500q", c, s, ok, want)
	}
}

func checkParse(t *testing.T, s string, want api.Config) {
	t.Helper()
	if c, ok := Parse(s); !ok || !equal(c, want) {
		t.Errorf("Parse(%.500q) = %v, %t, want %v, true", s, c, ok, want)
	}
}

func checkNoParse(t *testing.T, s string) {
	t.Helper()
	if c, ok := Parse(s); ok || !equal(c, api.Config{}) {
		t.Errorf("Parse(%.500q) = %v, %t, want a zero Config and false", s, c, ok)
	}
}

func checkAnyParse(t *testing.T, s string) {
	t.Helper()
	if c, ok := configOf(s); ok {
		checkParse(t, s, c)
	} else {
		checkNoParse(t, s)
	}
}

func TestKnownTexts(t *testing.T) {
	for _, k := range texts {
		checkText(t, k.c, k.text)
		checkParse(t, k.text, k.c)
	}
}

func TestTextOfConfigurationsThatHaveOne(t *testing.T) {
	for _, c := range written() {
		checkText(t, c, textOf(c))
		c.Sizes = spacious(c.Sizes, 8, -1)
		checkText(t, c, textOf(c))
	}
}

func TestTextOfConfigurationsThatHaveNone(t *testing.T) {
	for _, c := range unwritten() {
		checkText(t, c, "")
	}
}

func TestTextOfManySizes(t *testing.T) {
	c := sized(fill(834567, most)...)
	s := textOf(c)
	checkText(t, c, s)
	checkParse(t, s, c)
	checkNoParse(t, strings.Replace(s, " shift", ",1048577 shift", 1))
	c.Sizes[most-1] = most + 1
	checkText(t, c, "")
}

func TestParseOfTexts(t *testing.T) {
	for _, c := range written() {
		checkParse(t, textOf(c), c)
	}
}

func TestParseOfFaultyLists(t *testing.T) {
	_, rest, _ := strings.Cut(texts[0].text, "2,3,1")
	for _, l := range []string{"", ",", "2,", ",2", "2,,3", "2,3,1,", ",2,3,1", "2, 3", "2 ,3", "2 3", "2,3 ,1", "2;3", "2.3", "2,x", "2,-3", "+2", "02,3", "2,03", "2,3,01", "-0", "2,1048577", "1048577,2", "2,18446744073709551618", "2,0x3", "2,3.0", "2,1e1", "2,3\n", "\t2", "2,3", "[2,3]", "٢"} {
		checkNoParse(t, "sizes "+l+"x"+rest)
		if l != "2,3" {
			checkNoParse(t, "sizes "+l+rest)
		}
	}
	checkParse(t, "sizes 2,3"+rest, sized(2, 3))
}

// words returns the words and values of the text of the plain configuration.
func words() []string { return strings.Split(textOf(plain()), " ") }

func checkNoWords(t *testing.T, l ...string) {
	t.Helper()
	checkNoParse(t, strings.Join(l, " "))
}

func TestParseOfWordsLeftOutAndRepeated(t *testing.T) {
	l := words()
	for i := range l {
		checkNoWords(t, slices.Concat(l[:i], l[i+1:])...)
		checkNoWords(t, slices.Concat(l[:i], l[i:i+1], l[i:])...)
		checkNoWords(t, l[:i]...)
		checkNoWords(t, l[i+1:]...)
		checkNoWords(t, slices.Concat(l[:i], []string{""}, l[i:])...)
		checkNoWords(t, slices.Concat(l[:i], []string{""}, l[i+1:])...)
		if i%2 == 0 {
			checkNoWords(t, slices.Concat(l[:i], l[i+2:])...)
			checkNoWords(t, slices.Concat(l[:i+2], l[i:])...)
			checkNoWords(t, slices.Concat(l, l[i:i+2])...)
		}
	}
	checkNoWords(t, slices.Concat(l, l)...)
	checkParse(t, strings.Join(l, " "), plain())
}

func TestParseOfWordsInAnotherPlace(t *testing.T) {
	l := words()
	for i := range l {
		for k := range i {
			other := slices.Clone(l)
			other[i], other[k] = l[k], l[i]
			checkAnyParse(t, strings.Join(other, " "))
			if i%2 == 0 || k%2 == 0 {
				checkNoWords(t, other...)
				continue
			}
			// Values that are exchanged together with their words are in another order, too.
			other[i-1], other[k-1] = l[k-1], l[i-1]
			checkNoWords(t, other...)
		}
		if i < len(l)-1 {
			checkNoWords(t, append(slices.Concat(l[:i], l[i+1:]), l[i])...)
		}
	}
	slices.Reverse(l)
	checkNoWords(t, l...)
}

func TestParseOfOtherWords(t *testing.T) {
	l := words()
	for i := 0; i < len(l); i += 2 {
		w := l[i]
		for _, other := range []string{strings.ToUpper(w), strings.ToUpper(w[:1]) + w[1:], w + "s", w[:len(w)-1], w[1:], "x" + w, w + ":", w + "=", w + "\t", w + "\u00a0", w + "\x00", "x", "0", "é", "sizés", "shıft", "rate\u0301"} {
			checkNoWords(t, replacedWord(l, i, other)...)
		}
		checkParse(t, strings.Join(replacedWord(l, i, w), " "), plain())
	}
}

// replacedWord returns the words with another one at a place.
func replacedWord(l []string, at int, word string) []string {
	l = slices.Clone(l)
	l[at] = word
	return l
}

func TestParseOfFaultyValues(t *testing.T) {
	l := words()
	for i := 1; i < len(l); i += 2 {
		for _, v := range []string{"", "+1", "01", "00", "-0", "--1", "1-", "x", "1x", "x1", "0x1", "1_000", "1e3", "1.", ".5", "1.50", "-.5", "1,", ",1", "1,,1", "1,01", "1,-1", "١", "1\n", "\t1", "½", "∞", "NaN", "9223372036854775808", "-9223372036854775809", "18446744073709551616", "18446744073709551617", strings.Repeat("1", 100), strings.Repeat("0", 100)} {
			checkNoWords(t, replacedWord(l, i, v)...)
		}
		for _, v := range []string{"-1", "1048577", "1048576", "-1048576", "9223372036854775807", "-9223372036854775808", "0.5", "0.00390625", "0.001953125", "-0.00390625", "1,1", "1", "0", "62", "63", "64", "4294967297"} {
			checkAnyParse(t, strings.Join(replacedWord(l, i, v), " "))
		}
	}
}

func TestParseOfRatesThatHaveNoTextWithTheShift(t *testing.T) {
	text := func(shift, rate, momentum string) string {
		return strings.Join(replacedWord(replacedWord(replacedWord(words(), 3, shift), 5, rate), 7, momentum), " ")
	}
	c := plain(func(c *api.Config) { c.Shift, c.Rate, c.Momentum = 1, 1, -3 })
	checkParse(t, text("1", "0.5", "-1.5"), c)
	checkNoParse(t, text("0", "0.5", "1"))
	checkNoParse(t, text("0", "1", "-1.5"))
	checkNoParse(t, text("1", "0.25", "1"))
	checkNoParse(t, text("1", "1", "0.25"))
	checkNoParse(t, text("1", "0.50", "1"))
	checkNoParse(t, text("1", "1", "1.0"))
	checkNoParse(t, text("62", "2", "1"))
	checkNoParse(t, text("62", "1", "2"))
	checkNoParse(t, text("62", "1", "-3"))
	checkParse(t, text("62", "-2", "1"), plain(func(c *api.Config) { c.Shift, c.Rate, c.Momentum = 62, math.MinInt64, 1<<62 }))
	for _, shift := range []string{"63", "64", "65", "100", "1048576", "1048577", "-1", "", "8.0", "+8", "08"} {
		checkNoParse(t, text(shift, "0", "0"))
		checkNoParse(t, text(shift, "0.5", "-0.5"))
		checkNoParse(t, text(shift, "", ""))
	}
}

func TestParseOfTextsChangedAtOnePlace(t *testing.T) {
	others := []string{" ", "  ", ",", ".", "-", "+", "0", "1", "5", "9", "a", "s", "S", "\t", "\n", "\r", "\x00", "\xff", "\u00a0", "\u2003", "é", "٣", "_", "="}
	for _, k := range texts[:2] {
		s := k.text
		for i := range len(s) {
			checkAnyParse(t, s[:i]+s[i+1:])
			checkAnyParse(t, s[:i])
			checkAnyParse(t, s[:i]+strings.ToUpper(s[i:i+1])+s[i+1:])
			for _, r := range others {
				checkAnyParse(t, s[:i]+r+s[i:])
				checkAnyParse(t, s[:i]+r+s[i+1:])
			}
		}
		for _, r := range others {
			checkAnyParse(t, s+r)
		}
		checkNoParse(t, s+" ")
		checkNoParse(t, " "+s)
		checkNoParse(t, s+" "+s)
		checkNoParse(t, s+s)
		checkNoParse(t, s+"\n")
		checkNoParse(t, "\ufeff"+s)
		checkNoParse(t, strings.ToUpper(s))
		checkNoParse(t, strings.ReplaceAll(s, " ", "  "))
		checkNoParse(t, strings.ReplaceAll(s, " ", "\t"))
		checkNoParse(t, strings.ReplaceAll(s, " ", ""))
	}
}

func TestParseOfTextsThatAreNone(t *testing.T) {
	for _, s := range []string{"", " ", ",", "  ", "sizes", "sizes ", "sizes 1", "sizes 2,3,1 shift 8", "x", "\x00", "\xff\xfe", "größen 2,3,1", "sizes=2,3,1", "0", "2,3,1 8 0.5 0 2 5 4 10 6 7 9 11", strings.Repeat(" ", 23), strings.Repeat(" ", 24), strings.Repeat("x ", 23) + "x"} {
		checkNoParse(t, s)
	}
}

func TestParseOfLongTexts(t *testing.T) {
	s := texts[0].text
	for _, long := range []string{
		strings.Repeat(" ", most), strings.Repeat(",", most), strings.Repeat("1", most), strings.Repeat("1,", most), strings.Repeat(s+" ", 1000), s + strings.Repeat(" ", most), s + strings.Repeat("1", most),
		"sizes " + strings.Repeat(",", most) + s[len("sizes 2,3,1"):],
		"sizes " + strings.Repeat("9", most) + s[len("sizes 2,3,1"):],
		strings.Replace(s, "0.5", "0."+strings.Repeat("5", most), 1),
		strings.Replace(s, "0.5", "0.5"+strings.Repeat("0", most), 1),
		strings.Replace(s, "0.5", strings.Repeat("-", most), 1),
		strings.Repeat("é", most),
	} {
		checkNoParse(t, long)
	}
}

func TestParseOfManySpacesMakesFewWords(t *testing.T) {
	s := texts[0].text + strings.Repeat(" ", most)
	var before, after runtime.MemStats
	runtime.ReadMemStats(&before)
	checkNoParse(t, s)
	runtime.ReadMemStats(&after)
	if n := after.TotalAlloc - before.TotalAlloc; n > most {
		t.Errorf("%d bytes", n)
	}
}

func checkSame(t *testing.T, a, b api.Config, want bool) {
	t.Helper()
	if Same(a, b) != want || Same(b, a) != want {
		t.Errorf("Same(%v, %v) is not %t", a, b, want)
	}
}

func TestSameButForOneField(t *testing.T) {
	for bit := range 64 {
		for _, f := range integers() {
			other := plain(func(c *api.Config) { *f.of(c) ^= 1 << bit })
			checkSame(t, plain(), other, false)
			checkSame(t, other, other, true)
			checkSame(t, api.Config{}, changed(api.Config{}, func(c *api.Config) { *f.of(c) ^= 1 << bit }), false)
		}
		checkSame(t, plain(), plain(func(c *api.Config) { c.Rate ^= 1 << bit }), false)
		checkSame(t, plain(), plain(func(c *api.Config) { c.Momentum ^= 1 << bit }), false)
		for i := range 3 {
			checkSame(t, plain(), sized(replaced([]int{2, 3, 1}, i, []int{2, 3, 1}[i]^1<<bit)...), false)
		}
	}
	checkSame(t, plain(), plain(), true)
}

// changed returns a configuration with a change.
func changed(c api.Config, change func(c *api.Config)) api.Config {
	change(&c)
	return c
}

func TestSameOfExchangedFields(t *testing.T) {
	l := integers()
	for i, f := range l {
		for _, g := range l[:i] {
			checkSame(t, plain(), plain(func(c *api.Config) { *f.of(c), *g.of(c) = *g.of(c), *f.of(c) }), false)
		}
	}
	checkSame(t, plain(), plain(func(c *api.Config) { c.Rate, c.Momentum = c.Momentum, c.Rate }), false)
}

func TestSameOfSizes(t *testing.T) {
	lists := [][]int{{}, {0}, {1}, {2}, {0, 0}, {1, 2}, {2, 1}, {1, 2, 3}, {1, 2, 4}, {0, 2, 3}, {1, 0, 3}, {2, 3}, {1, 2, 3, 0}, {low, top}, {top, low}, fill(1, 16), fill(1, 17), replaced(fill(1, 17), 16, 0), replaced(fill(1, 17), 8, 0), replaced(fill(1, 17), 0, 0)}
	for i, a := range lists {
		for k, b := range lists {
			checkSame(t, sized(a...), sized(b...), i == k)
			checkSame(t, sized(spacious(a, 1, 2, 3)...), sized(spacious(b, 4)...), i == k)
		}
	}
	checkSame(t, sized(), sized([]int{}...), true)
	checkSame(t, api.Config{}, api.Config{Sizes: []int{}}, true)
	checkSame(t, api.Config{Sizes: []int{1}[:0]}, api.Config{}, true)
	checkSame(t, api.Config{}, api.Config{Sizes: []int{0}}, false)
	long := fill(5, most)
	checkSame(t, sized(long...), sized(slices.Clone(long)...), true)
	if Same(sized(long...), sized(replaced(long, most-1, 6)...)) {
		t.Error("another last size")
	}
}

func TestSameOfAllPairs(t *testing.T) {
	l := slices.Concat(right(), wrong(), []api.Config{texts[1].c, texts[2].c, texts[3].c})
	for _, a := range l {
		for _, b := range l {
			checkSame(t, a, b, equal(a, b))
		}
	}
}

// P11.4

func TestParseInvertsText(t *testing.T) {
	for _, c := range slices.Concat(written(), unwritten(), right(), wrong()) {
		s, ok := Text(c)
		if !ok {
			checkNoParse(t, s)
			continue
		}
		again, is := Parse(s)
		if !is || !Same(again, c) || !equal(again, c) {
			t.Errorf("Parse(%q) = %v, %t, want %v", s, again, is, c)
		}
		checkText(t, again, s)
	}
}

func TestConfigurationsHaveTheSameTextExactlyIfTheyAreTheSame(t *testing.T) {
	seen := map[string]api.Config{}
	for _, c := range written() {
		s, _ := Text(c)
		if other, again := seen[s]; again && !Same(c, other) {
			t.Errorf("%v and %v have the text %q", c, other, s)
		}
		seen[s] = c
	}
}

func TestRateAndMomentumChangeNoCode(t *testing.T) {
	numbers := []int64{0, 1, -1, 256, -256, math.MinInt64, math.MaxInt64}
	for _, c := range append(right(), wrong()...) {
		want := codeOf(c)
		for _, rate := range numbers {
			for _, momentum := range numbers {
				c.Rate, c.Momentum = rate, momentum
				checkCode(t, c, want)
			}
			checkEpochs(t, c, 4, Epochs(plain(func(d *api.Config) { *d, d.Rate, d.Momentum = c, 0, 0 }), 4))
		}
	}
	in := inputFor(plain(), 9)
	for _, x := range numbers {
		in.Config.Rate, in.Config.Momentum = x, -x
		checkInput(t, "right", in, api.OK)
	}
}

// All of it

func TestParsedSizesMayBeChanged(t *testing.T) {
	for _, k := range texts {
		a, _ := Parse(k.text)
		b, _ := Parse(k.text)
		for _, l := range [][]int{a.Sizes, append(a.Sizes, 5)} {
			for i := range l {
				l[i] = -7
			}
		}
		if !equal(b, k.c) {
			t.Errorf("another result is %v now", b)
		}
		checkParse(t, k.text, k.c)
		checkText(t, b, k.text)
	}
}

func TestArgumentsAreNotChanged(t *testing.T) {
	sizes := spacious([]int{2, 3, 1}, 70, 71, 72)
	in := inputFor(sized(sizes...), 10)
	in.Config.Sizes = sizes
	e := api.Example{X: spacious([]int64{5, 6}, 80, 81), Y: spacious([]int64{7}, 82)}
	in.Data = spacious(slices.Repeat([]api.Example{e}, 10), api.Example{Y: []int64{83}})
	in.Start, in.Draws = spacious(in.Start, 90, 91), spacious(in.Draws, 92, 93)
	for range 2 {
		c := in.Config
		checkCode(t, c, api.OK)
		checkInput(t, "right", in, api.OK)
		checkEpochs(t, c, 10, 5)
		checkText(t, c, textOf(sized(2, 3, 1)))
		checkSame(t, c, plain(), true)
		c.Shift = 63
		checkCode(t, c, api.ErrShift)
		checkText(t, c, "")
		checkSame(t, c, plain(), false)
	}
	if !slices.Equal(sizes[:6], []int{2, 3, 1, 70, 71, 72}) || !slices.Equal(e.X[:4], []int64{5, 6, 80, 81}) || !slices.Equal(e.Y[:2], []int64{7, 82}) {
		t.Error(sizes[:6], e.X[:4], e.Y[:2])
	}
	for i, d := range in.Data {
		if len(d.X) != 2 || len(d.Y) != 1 || &d.X[0] != &e.X[0] || &d.Y[0] != &e.Y[0] {
			t.Errorf("the example %d is %v", i, d)
		}
	}
	last := in.Data[:11][10]
	if len(last.X) != 0 || !slices.Equal(last.Y, []int64{83}) {
		t.Error(last)
	}
	start, draws := in.Start[:15], in.Draws[:47]
	if slices.Max(start[:13]) != 0 || slices.Min(start[:13]) != 0 || start[13] != 90 || start[14] != 91 || slices.Max(draws[:45]) != 0 || draws[45] != 92 || draws[46] != 93 {
		t.Error(start, draws)
	}
}

func TestTextsDoNotChangeWithTheSizes(t *testing.T) {
	sizes := []int{2, 3, 1}
	c := sized(sizes...)
	s, _ := Text(c)
	sizes[0], c.Sizes[1] = 9, 8
	if s != texts[0].text {
		t.Error(s)
	}
}

func TestCallsChangeNothing(t *testing.T) {
	in := inputFor(plain(), 20)
	for range 3 {
		for _, k := range texts {
			checkText(t, k.c, k.text)
			checkNoParse(t, k.text+" ")
			checkCode(t, k.c, codeOf(k.c))
			checkText(t, api.Config{}, "")
			checkParse(t, k.text, k.c)
		}
		checkEpochs(t, plain(), 5, 10)
		checkEpochs(t, plain(), 4, 0)
		checkInput(t, "no examples", api.Input{Config: plain()}, api.ErrBatch)
		checkInput(t, "right", in, api.OK)
	}
}

func TestCallsWithGoroutines(t *testing.T) {
	l := right()
	in := inputFor(l[0], 20)
	var wait sync.WaitGroup
	for i := range 8 {
		wait.Go(func() {
			for k := range l {
				c := l[(k+i)%len(l)]
				s := textOf(c)
				checkCode(t, c, api.OK)
				checkText(t, c, s)
				checkParse(t, s, c)
				checkSame(t, c, l[k], equal(c, l[k]))
				checkEpochs(t, c, 0, 0)
				checkInput(t, "right", in, api.OK)
			}
		})
	}
	wait.Wait()
}
