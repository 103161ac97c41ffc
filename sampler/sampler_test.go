package sampler

import (
	"math"
	"slices"
	"sync"
	"testing"

	"sakia/api"
)

const (
	top   = math.MaxInt
	low   = math.MinInt
	most  = 1 << 20        // the greatest number of examples, steps, workers and micro-batches
	great = math.MaxUint64 // the greatest draw
)

// negatives has numbers that no step, epoch, worker or micro-batch has, and that count nothing.
var negatives = []int{-1, -2, -64, -most, -1 << 32, low + 1, low}

// edges has numbers around the limits.
var edges = []int{low, low + 1, -1 << 32, -most, -2, -1, 0, 1, 2, 3, most - 1, most, most + 1, 1 << 32, 1<<32 + 1, top - 1, top}

// absent returns numbers that are not from 0 to count - 1.
func absent(count int) []int {
	return append([]int{count, count + 1, count + most, count + 1<<32, top - 1, top}, negatives...)
}

// mixed returns draws with mixed bits, some of which are the least and the greatest one.
func mixed(count int) []uint64 {
	l := make([]uint64, count)
	x := uint64(0x9e3779b97f4a7c15)
	for i := range l {
		x ^= x << 13
		x ^= x >> 7
		x ^= x << 17
		switch l[i] = x; i % 11 {
		case 4:
			l[i] = great
		case 9:
			l[i] = 0
		}
	}
	return l
}

// setting is what a sampler is made from.
type setting struct {
	n, batch, steps int
	draws           []uint64
}

// needed counts the draws that a sampler needs step by step.
func needed(n, batch, steps int) int {
	draws, left := 0, 0
	for range steps {
		if left < batch {
			draws += n - 1
			left = n
		}
		left -= batch
	}
	return draws
}

// with returns a setting that has exactly the draws that it needs.
func with(n, batch, steps int) setting {
	return setting{n, batch, steps, mixed(needed(n, batch, steps))}
}

// settings returns settings for few examples, with all batches and with steps around the ends of epochs, and some for more.
func settings() []setting {
	var l []setting
	for n := 1; n <= 9; n++ {
		for batch := 1; batch <= n; batch++ {
			each := n / batch
			steps := []int{0, 1, each - 1, each, each + 1, 2*each - 1, 2 * each, 2*each + 1, 3*each + each/2}
			slices.Sort(steps)
			for _, k := range slices.Compact(steps) {
				l = append(l, with(n, batch, k))
			}
		}
	}
	return append(l, with(64, 64, 3), with(64, 1, 65), with(100, 7, 45), with(101, 10, 20), with(1000, 999, 3), with(30, 12, 5))
}

// made returns the sampler of a right setting.
func (c setting) made(t *testing.T) *Sampler {
	t.Helper()
	s, code := New(c.n, c.batch, c.steps, c.draws...)
	if s == nil || code != api.OK {
		t.Fatalf("New(%d, %d, %d) with %d draws = %v, %v", c.n, c.batch, c.steps, len(c.draws), s, code)
	}
	return s
}

// step is what the chapter says of a step.
type step struct {
	epoch, place int
	batch        []int
}

// epoch is what the chapter says of an epoch.
type epoch struct{ order, unused []int }

// model goes through a run, one batch after the other: when too few indices are left for one, the next epoch begins.
func (c setting) model() (steps []step, epochs []epoch) {
	draws := c.draws
	var left []int
	place := 0
	for range c.steps {
		if len(left) < c.batch {
			left = shuffled(c.n, draws...)
			draws = draws[c.n-1:]
			epochs = append(epochs, epoch{left, tail(left, c.batch)})
			place = 0
		}
		steps = append(steps, step{len(epochs) - 1, place, left[:c.batch]})
		left = left[c.batch:]
		place++
	}
	return steps, epochs
}

// tail returns what no whole batch has.
func tail(l []int, batch int) []int {
	for len(l) >= batch {
		l = l[batch:]
	}
	return l
}

// shuffled returns the permutation that draws make, by the words of chapter 6.
func shuffled(n int, draws ...uint64) []int {
	l := count(n)
	for i := n - 1; i >= 1; i-- {
		j := int(draws[n-1-i] % uint64(i+1))
		first, second := l[i], l[j]
		l[i] = second
		l[j] = first
	}
	return l
}

// count returns the numbers 0 to n - 1.
func count(n int) []int {
	l := []int{}
	for i := range n {
		l = append(l, i)
	}
	return l
}

// parts returns the even division of a list: places are dealt out to the parts in turn, so that those in front get more.
func parts(l []int, k int) [][]int {
	sizes := make([]int, k)
	for i := range l {
		sizes[i%k]++
	}
	var all [][]int
	for _, size := range sizes {
		all = append(all, l[:size])
		l = l[size:]
	}
	return all
}

// numbersFor returns numbers of workers or micro-batches for so many places: fewer, as many and more.
func numbersFor(places int) []int {
	l := []int{1, 2, 3, places - 1, places, places + 1, 2*places + 1, 64}
	slices.Sort(l)
	l = slices.Compact(l)
	return l[slices.Index(l, 1):]
}

// methods returns what all methods return that have a list.
func methods(s *Sampler, t int) [][]int {
	return [][]int{s.Batch(t), s.Shard(t, 0, 1), s.Shard(t, 1, 2), s.Micro(t, 0, 1, 0, 1), s.Micro(t, 0, 2, 0, 2), s.Unused(0), s.Unused(1)}
}

// same compares lists of lists.
func same(a, b [][]int) bool {
	return slices.EqualFunc(a, b, func(v, w []int) bool { return slices.Equal(v, w) })
}

func checkList(t *testing.T, what string, got, want []int) {
	t.Helper()
	if !slices.Equal(got, want) {
		t.Fatalf("%s = %d, want %d", what, got, want)
	}
}

// checkNew tests the code of New and what goes with it.
func checkNew(t *testing.T, n, batch, steps int, draws []uint64, want api.Code) {
	t.Helper()
	s, code := New(n, batch, steps, draws...)
	if code != want || (s == nil) == (want == api.OK) {
		t.Fatalf("New(%d, %d, %d) with %d draws = %v, %v, want %v", n, batch, steps, len(draws), s != nil, code, want)
	}
	if want == api.OK && s.Steps() != steps {
		t.Fatalf("Steps() = %d, want %d", s.Steps(), steps)
	}
}

func checkEpoch(t *testing.T, s *Sampler, step, epoch, place int, ok bool) {
	t.Helper()
	if e, p, is := s.Epoch(step); e != epoch || p != place || is != ok {
		t.Fatalf("Epoch(%d) = %d, %d, %t, want %d, %d, %t", step, e, p, is, epoch, place, ok)
	}
}

// checkAll tests all that a sampler says of the steps and the epochs there are.
func checkAll(t *testing.T, s *Sampler, c setting) {
	t.Helper()
	steps, epochs := c.model()
	if s.Steps() != len(steps) {
		t.Fatalf("Steps() = %d, want %d", s.Steps(), len(steps))
	}
	for k, e := range epochs {
		checkList(t, "Unused", s.Unused(k), e.unused)
	}
	for k, want := range steps {
		checkEpoch(t, s, k, want.epoch, want.place, true)
		checkList(t, "Batch", s.Batch(k), want.batch)
		checkList(t, "the only Shard", s.Shard(k, 0, 1), want.batch)
		checkList(t, "the first Shard", s.Shard(k, 0, 2), parts(want.batch, 2)[0])
		checkList(t, "the second Shard", s.Shard(k, 1, 2), parts(want.batch, 2)[1])
		checkList(t, "a Micro", s.Micro(k, 1, 2, 0, 2), parts(parts(want.batch, 2)[1], 2)[0])
	}
}

// P12.1

// codeOf returns the code that New should return, by the chapter's own words.
func codeOf(n, batch, steps, draws int) api.Code {
	if n < 1 || most < n {
		return api.ErrRange
	}
	if steps < 0 || most < steps {
		return api.ErrRange
	}
	if batch < 1 || n < batch {
		return api.ErrBatch
	}
	if draws < needed(n, batch, steps) {
		return api.ErrDraws
	}
	return api.OK
}

func TestNewAtAllLimits(t *testing.T) {
	for _, n := range edges {
		for _, batch := range edges {
			for _, steps := range edges {
				checkNew(t, n, batch, steps, nil, codeOf(n, batch, steps, 0))
				checkNew(t, n, batch, steps, []uint64{great}, codeOf(n, batch, steps, 1))
			}
		}
	}
}

func TestNewOfKnownCodes(t *testing.T) {
	none, some := []uint64(nil), mixed(10)
	for _, c := range []struct {
		n, batch, steps int
		draws           []uint64
		want            api.Code
	}{
		{-1, 1, 1, some, api.ErrRange}, {0, 1, 1, some, api.ErrRange}, {1, 1, 1, some, api.OK}, {most, 1, 1, some, api.ErrDraws}, {most, 1, 0, none, api.OK}, {most + 1, 1, 0, some, api.ErrRange}, {low, 1, 1, some, api.ErrRange}, {top, 1, 1, some, api.ErrRange},
		{4, 2, -1, some, api.ErrRange}, {4, 2, 0, none, api.OK}, {4, 2, 1, some, api.OK}, {4, 2, most, some, api.ErrDraws}, {1, 1, most, none, api.OK}, {1, 1, most + 1, none, api.ErrRange}, {4, 2, low, some, api.ErrRange}, {4, 2, top, some, api.ErrRange},
		{4, -1, 2, some, api.ErrBatch}, {4, 0, 2, some, api.ErrBatch}, {4, 1, 2, some, api.OK}, {4, 4, 2, some, api.OK}, {4, 5, 2, some, api.ErrBatch}, {4, low, 2, some, api.ErrBatch}, {4, top, 2, some, api.ErrBatch},
		{4, 0, 0, none, api.ErrBatch}, {4, 5, 0, none, api.ErrBatch}, {1, 2, 0, none, api.ErrBatch}, {1, 0, 0, none, api.ErrBatch}, {most, most, 0, none, api.OK}, {most, most + 1, 0, none, api.ErrBatch},
		{0, 0, 0, none, api.ErrRange}, {0, 0, -1, none, api.ErrRange}, {4, 0, -1, none, api.ErrRange}, {4, 5, most + 1, none, api.ErrRange}, {0, 1, 1, none, api.ErrRange}, {4, 2, -1, none, api.ErrRange}, {4, 0, 1, none, api.ErrBatch}, {4, 5, 3, none, api.ErrBatch},
		{4, 2, 1, none, api.ErrDraws}, {4, 2, 1, some[:2], api.ErrDraws}, {4, 2, 1, some[:3], api.OK}, {4, 2, 2, some[:3], api.OK}, {4, 2, 3, some[:3], api.ErrDraws}, {4, 2, 3, some[:5], api.ErrDraws}, {4, 2, 3, some[:6], api.OK}, {4, 2, 4, some[:6], api.OK}, {4, 2, 4, some[:7], api.OK}, {4, 2, 5, some[:8], api.ErrDraws},
		{5, 2, 2, some[:4], api.OK}, {5, 2, 3, some[:7], api.ErrDraws}, {5, 2, 3, some[:8], api.OK}, {5, 3, 1, some[:4], api.OK}, {5, 3, 2, some[:4], api.ErrDraws}, {5, 5, 2, some[:8], api.OK}, {5, 1, 5, some[:4], api.OK}, {5, 1, 6, some[:4], api.ErrDraws},
	} {
		checkNew(t, c.n, c.batch, c.steps, c.draws, c.want)
	}
}

func TestNewOfNumbersOfDraws(t *testing.T) {
	for _, c := range settings() {
		need := len(c.draws)
		for _, k := range []int{0, 1, need / 2, need - c.n, need - c.n + 1, need - 2, need - 1} {
			if k >= 0 && k < need {
				checkNew(t, c.n, c.batch, c.steps, c.draws[:k], api.ErrDraws)
				checkNew(t, c.n, c.batch, c.steps, slices.Clip(c.draws[:k]), api.ErrDraws)
			}
		}
		for _, more := range []int{0, 1, 2, c.n, 1000} {
			checkNew(t, c.n, c.batch, c.steps, append(slices.Clone(c.draws), mixed(more)...), api.OK)
		}
	}
}

func TestNewReturnsTheFirstCode(t *testing.T) {
	for _, bad := range []int{low, -1, most + 1, top} {
		for _, batch := range edges {
			for _, draws := range [][]uint64{nil, mixed(3), mixed(100)} {
				checkNew(t, bad, batch, 2, draws, api.ErrRange)
				checkNew(t, 5, batch, bad, draws, api.ErrRange)
				checkNew(t, bad, batch, bad, draws, api.ErrRange)
			}
		}
		for _, steps := range []int{0, 1, 2, 1000, most} {
			for _, draws := range [][]uint64{nil, mixed(3), mixed(100)} {
				checkNew(t, 0, bad, steps, draws, api.ErrRange)
				checkNew(t, 5, bad, steps, draws, api.ErrBatch)
				checkNew(t, 5, 0, steps, draws, api.ErrBatch)
				checkNew(t, 5, 6, steps, draws, api.ErrBatch)
			}
		}
	}
}

func TestNewOfOneExampleNeedsNoDraws(t *testing.T) {
	for _, steps := range []int{0, 1, 2, 100, most} {
		for _, draws := range [][]uint64{nil, {}, {great}, mixed(7)} {
			c := setting{1, 1, steps, draws}
			s := c.made(t)
			for _, k := range []int{0, 1, steps / 2, steps - 1} {
				if k >= 0 && k < steps {
					checkEpoch(t, s, k, k, 0, true)
					checkList(t, "Batch", s.Batch(k), []int{0})
					checkList(t, "Shard", s.Shard(k, 0, 2), []int{0})
					checkList(t, "Shard", s.Shard(k, 1, 2), nil)
					checkList(t, "Unused", s.Unused(k), nil)
				}
			}
			checkEpoch(t, s, steps, 0, 0, false)
			checkList(t, "Batch", s.Batch(steps), nil)
		}
	}
}

func TestNewOfTheMostExamples(t *testing.T) {
	draws := mixed(2*most - 2)
	order := shuffled(most, draws...)
	for _, batch := range []int{2, 3, most/2 - 1, most/2 + 1, most - 1, most} {
		checkNew(t, most, batch, most/batch, draws[:most-2], api.ErrDraws)
		checkNew(t, most, batch, most/batch+1, draws[:2*most-3], api.ErrDraws)
		s := setting{most, batch, most / batch, draws[:most-1]}.made(t)
		last := most/batch - 1
		checkList(t, "the first Batch", s.Batch(0), order[:batch])
		checkList(t, "the last Batch", s.Batch(last), order[last*batch:(last+1)*batch])
		checkList(t, "Unused", s.Unused(0), tail(order, batch))
	}
	s := setting{most, most, 2, draws}.made(t)
	checkList(t, "the Batch of the second epoch", s.Batch(1), shuffled(most, draws[most-1:]...))
}

func TestNewOfTheMostSteps(t *testing.T) {
	for _, c := range []setting{with(2, 1, most), with(2, 2, most), with(3, 2, most), with(most, 1, most)} {
		checkNew(t, c.n, c.batch, c.steps, c.draws[1:], api.ErrDraws)
		s := c.made(t)
		steps, epochs := c.model()
		for _, k := range []int{0, 1, most/2 - 1, most / 2, most - 2, most - 1} {
			checkEpoch(t, s, k, steps[k].epoch, steps[k].place, true)
			checkList(t, "Batch", s.Batch(k), steps[k].batch)
			checkList(t, "Unused", s.Unused(steps[k].epoch), epochs[steps[k].epoch].unused)
		}
		checkEpoch(t, s, most, 0, 0, false)
		checkList(t, "Unused", s.Unused(len(epochs)), nil)
	}
}

func TestSteps(t *testing.T) {
	for _, steps := range []int{0, 1, 2, 3, 4, 5, 6, 7} {
		if got := with(7, 2, steps).made(t).Steps(); got != steps {
			t.Errorf("Steps() = %d, want %d", got, steps)
		}
	}
}

// P12.2

func TestKnownBatches(t *testing.T) {
	for _, c := range []struct {
		setting
		batches [][]int
		unused  [][]int
	}{
		{setting{4, 2, 2, []uint64{3, 2, 1}}, [][]int{{0, 1}, {2, 3}}, [][]int{{}}},
		{setting{4, 2, 2, []uint64{4, 3, 2}}, [][]int{{1, 2}, {3, 0}}, [][]int{{}}},
		{setting{4, 2, 2, []uint64{0, 0, 0}}, [][]int{{1, 2}, {3, 0}}, [][]int{{}}},
		{setting{4, 4, 1, []uint64{1, 2, 0}}, [][]int{{3, 0, 2, 1}}, [][]int{{}}},
		{setting{4, 3, 1, []uint64{1, 2, 0}}, [][]int{{3, 0, 2}}, [][]int{{1}}},
		{setting{4, 1, 3, []uint64{1, 2, 0}}, [][]int{{3}, {0}, {2}}, [][]int{{}}},
		{setting{3, 1, 5, []uint64{0, 0, 2, 1}}, [][]int{{1}, {2}, {0}, {0}, {1}}, [][]int{{}, {}}},
		{setting{3, 2, 3, []uint64{0, 0, 2, 1, great, great}}, [][]int{{1, 2}, {0, 1}, {2, 1}}, [][]int{{0}, {2}, {0}}},
		{setting{3, 3, 2, []uint64{1, 0, 0, 1}}, [][]int{{2, 0, 1}, {2, 1, 0}}, [][]int{{}, {}}},
		{setting{5, 2, 2, []uint64{great, great, great, great}}, [][]int{{2, 1}, {4, 3}}, [][]int{{0}}},
		{setting{5, 2, 1, []uint64{great, great, great, great}}, [][]int{{2, 1}}, [][]int{{0}}},
		{setting{5, 4, 1, []uint64{great, great, great, great}}, [][]int{{2, 1, 4, 3}}, [][]int{{0}}},
		{setting{5, 3, 1, []uint64{great, great, great, great}}, [][]int{{2, 1, 4}}, [][]int{{3, 0}}},
		{setting{2, 1, 3, []uint64{0, great}}, [][]int{{1}, {0}, {0}}, [][]int{{}, {}}},
		{setting{1, 1, 2, nil}, [][]int{{0}, {0}}, [][]int{{}, {}}},
		{setting{4, 2, 0, nil}, nil, nil},
	} {
		s := c.made(t)
		for k, want := range c.batches {
			checkList(t, "Batch", s.Batch(k), want)
		}
		for k, want := range c.unused {
			checkList(t, "Unused", s.Unused(k), want)
		}
		checkList(t, "Batch", s.Batch(len(c.batches)), nil)
		checkList(t, "Unused", s.Unused(len(c.unused)), nil)
	}
}

func TestKnownShards(t *testing.T) {
	// The order is 0 to 10; a batch has the first ten.
	s := setting{11, 10, 1, []uint64{10, 9, 8, 7, 6, 5, 4, 3, 2, 1}}.made(t)
	for workers, want := range map[int][][]int{
		1:  {{0, 1, 2, 3, 4, 5, 6, 7, 8, 9}},
		2:  {{0, 1, 2, 3, 4}, {5, 6, 7, 8, 9}},
		3:  {{0, 1, 2, 3}, {4, 5, 6}, {7, 8, 9}},
		4:  {{0, 1, 2}, {3, 4, 5}, {6, 7}, {8, 9}},
		7:  {{0, 1}, {2, 3}, {4, 5}, {6}, {7}, {8}, {9}},
		10: {{0}, {1}, {2}, {3}, {4}, {5}, {6}, {7}, {8}, {9}},
		12: {{0}, {1}, {2}, {3}, {4}, {5}, {6}, {7}, {8}, {9}, {}, {}},
	} {
		for w, shard := range want {
			checkList(t, "Shard", s.Shard(0, w, workers), shard)
		}
		checkList(t, "Shard", s.Shard(0, workers, workers), nil)
	}
	for _, c := range []struct {
		w, workers, a, micros int
		want                  []int
	}{
		{0, 1, 0, 3, []int{0, 1, 2, 3}}, {0, 1, 2, 3, []int{7, 8, 9}},
		{0, 3, 0, 3, []int{0, 1}}, {0, 3, 1, 3, []int{2}}, {0, 3, 2, 3, []int{3}}, {0, 3, 3, 3, nil},
		{1, 3, 0, 2, []int{4, 5}}, {1, 3, 1, 2, []int{6}}, {1, 3, 2, 2, nil},
		{2, 3, 0, 1, []int{7, 8, 9}}, {2, 3, 2, 4, []int{9}}, {2, 3, 3, 4, nil}, {3, 3, 0, 1, nil},
		{9, 10, 0, 1, []int{9}}, {9, 10, 0, 2, []int{9}}, {9, 10, 1, 2, nil}, {11, 12, 0, 1, nil}, {11, 12, 0, 2, nil},
	} {
		checkList(t, "Micro", s.Micro(0, c.w, c.workers, c.a, c.micros), c.want)
	}
}

func TestBatchShardAndMicroOfAllSettings(t *testing.T) {
	for _, c := range settings() {
		s := c.made(t)
		steps, _ := c.model()
		for k, want := range steps {
			checkList(t, "Batch", s.Batch(k), want.batch)
			for _, workers := range numbersFor(c.batch) {
				checkShards(t, s, k, want.batch, workers)
			}
		}
	}
}

// checkShards tests all shards of a batch, and the micro-batches of some of them.
func checkShards(t *testing.T, s *Sampler, k int, batch []int, workers int) {
	t.Helper()
	for w, shard := range parts(batch, workers) {
		checkList(t, "Shard", s.Shard(k, w, workers), shard)
		if w > 3 && w < workers-2 {
			continue
		}
		for _, micros := range []int{1, 2, 3, max(len(shard), 1), len(shard) + 1} {
			for a, micro := range parts(shard, micros) {
				checkList(t, "Micro", s.Micro(k, w, workers, a, micros), micro)
			}
		}
	}
}

func TestNoSuchStep(t *testing.T) {
	for _, c := range settings() {
		s := c.made(t)
		for _, k := range absent(c.steps) {
			checkList(t, "Batch", s.Batch(k), nil)
			for _, w := range []int{-1, 0, 1} {
				for _, workers := range []int{low, -1, 0, 1, 2, most} {
					checkList(t, "Shard", s.Shard(k, w, workers), nil)
					checkList(t, "Micro", s.Micro(k, w, workers, 0, 1), nil)
					checkList(t, "Micro", s.Micro(k, 0, 1, w, workers), nil)
				}
			}
		}
	}
}

func TestNoSuchWorkerOrMicroBatch(t *testing.T) {
	for _, c := range []setting{with(9, 4, 3), with(9, 9, 1), with(5, 1, 5), with(1, 1, 1)} {
		s := c.made(t)
		for k := range c.steps {
			for _, number := range append(numbersFor(c.batch), 0, -1, -most, low, most) {
				for _, i := range append(absent(max(number, 0)), 0, number-1) {
					if i >= 0 && i < number {
						continue
					}
					checkList(t, "Shard", s.Shard(k, i, number), nil)
					for _, other := range []int{low, -1, 0, 1, 2, most} {
						checkList(t, "Micro", s.Micro(k, i, number, 0, other), nil)
						checkList(t, "Micro", s.Micro(k, 0, other, i, number), nil)
					}
				}
			}
		}
	}
}

func TestNumbersOfWorkersThatAreNone(t *testing.T) {
	s := with(9, 4, 3).made(t)
	for _, none := range append(slices.Clone(negatives), 0) {
		for _, i := range edges {
			checkList(t, "Shard", s.Shard(1, i, none), nil)
			checkList(t, "Micro", s.Micro(1, i, none, 0, 1), nil)
			checkList(t, "Micro", s.Micro(1, 0, 1, i, none), nil)
			checkList(t, "Micro", s.Micro(1, i, none, i, none), nil)
		}
	}
}

func TestShardsAndMicroBatchesThatAreEmpty(t *testing.T) {
	s := setting{5, 3, 1, []uint64{4, 3, 2, 1}}.made(t)
	for _, number := range []int{4, 5, 64, most - 1, most} {
		for _, i := range []int{3, number/2 + 2, number - 2, number - 1} {
			if i < 3 {
				continue
			}
			checkList(t, "Shard", s.Shard(0, i, number), nil)
			checkList(t, "Micro", s.Micro(0, i, number, 0, 1), nil)
			checkList(t, "Micro", s.Micro(0, i, number, 0, most), nil)
			checkList(t, "Micro", s.Micro(0, 0, 1, i, number), nil)
		}
		for i := range 3 {
			checkList(t, "Shard", s.Shard(0, i, number), []int{i})
			checkList(t, "Micro", s.Micro(0, i, number, 0, 1), []int{i})
			checkList(t, "Micro", s.Micro(0, i, number, 0, most), []int{i})
			checkList(t, "Micro", s.Micro(0, i, number, 1, most), nil)
			checkList(t, "Micro", s.Micro(0, 0, 1, i, number), []int{i})
		}
	}
}

func TestTheMostWorkersAndMicroBatches(t *testing.T) {
	c := with(6, 5, 2)
	s := c.made(t)
	steps, _ := c.model()
	for k, want := range steps {
		var shards, micros []int
		for i := range most {
			shards = append(shards, s.Shard(k, i, most)...)
			micros = append(micros, s.Micro(k, 0, 1, i, most)...)
		}
		checkList(t, "all shards", shards, want.batch)
		checkList(t, "all micro-batches", micros, want.batch)
	}
}

func TestGreatBatchesWithManyWorkers(t *testing.T) {
	draws := mixed(most - 1)
	order := shuffled(most, draws...)
	s := setting{most, most, 1, draws}.made(t)
	checkList(t, "Shard", s.Shard(0, 0, most), order[:1])
	checkList(t, "Shard", s.Shard(0, most-1, most), order[most-1:])
	checkList(t, "Shard", s.Shard(0, 0, most-1), order[:2])
	checkList(t, "Shard", s.Shard(0, 1, most-1), order[2:3])
	checkList(t, "Shard", s.Shard(0, most-2, most-1), order[most-1:])
	checkList(t, "Shard", s.Shard(0, 63, 64), order[most-most/64:])
	checkList(t, "Micro", s.Micro(0, 63, 64, 0, 2), order[most-most/64:most-most/128])
	checkList(t, "Micro", s.Micro(0, 0, 1, 17, most), order[17:18])
	checkList(t, "Micro", s.Micro(0, 0, 3, most/3, most), order[most/3:most/3+1])
	checkList(t, "Micro", s.Micro(0, 0, 3, most/3+1, most), nil)
}

// P12.3

func TestKnownEpochs(t *testing.T) {
	for _, c := range []struct {
		n, batch int
		epochs   [][2]int // of each step, with its place
	}{
		{5, 2, [][2]int{{0, 0}, {0, 1}, {1, 0}, {1, 1}, {2, 0}}},
		{4, 2, [][2]int{{0, 0}, {0, 1}, {1, 0}, {1, 1}}},
		{4, 3, [][2]int{{0, 0}, {1, 0}, {2, 0}}},
		{4, 4, [][2]int{{0, 0}, {1, 0}}},
		{3, 1, [][2]int{{0, 0}, {0, 1}, {0, 2}, {1, 0}, {1, 1}, {1, 2}, {2, 0}}},
		{1, 1, [][2]int{{0, 0}, {1, 0}, {2, 0}}},
		{7, 2, [][2]int{{0, 0}, {0, 1}}},
		{7, 2, nil},
	} {
		s := with(c.n, c.batch, len(c.epochs)).made(t)
		for k, want := range c.epochs {
			checkEpoch(t, s, k, want[0], want[1], true)
		}
		for _, k := range absent(len(c.epochs)) {
			checkEpoch(t, s, k, 0, 0, false)
		}
	}
}

func TestEpochAndUnusedOfAllSettings(t *testing.T) {
	for _, c := range settings() {
		s := c.made(t)
		steps, epochs := c.model()
		for k, want := range steps {
			checkEpoch(t, s, k, want.epoch, want.place, true)
		}
		for _, k := range absent(len(steps)) {
			checkEpoch(t, s, k, 0, 0, false)
		}
		for k, want := range epochs {
			checkList(t, "Unused", s.Unused(k), want.unused)
			if got := len(s.Unused(k)); got != c.n%c.batch {
				t.Fatalf("%d unused indices of %d with batches of %d", got, c.n, c.batch)
			}
		}
		for _, k := range absent(len(epochs)) {
			checkList(t, "Unused", s.Unused(k), nil)
		}
	}
}

func TestUnusedOfAnEpochThatIsNotFinished(t *testing.T) {
	// The order is 0 to 6; batches of 2 use all but the last one, whether their steps are there or not.
	for steps := 1; steps <= 3; steps++ {
		s := setting{7, 2, steps, []uint64{6, 5, 4, 3, 2, 1}}.made(t)
		checkList(t, "Unused", s.Unused(0), []int{6})
		checkList(t, "Unused", s.Unused(1), nil)
	}
	s := setting{7, 2, 4, []uint64{6, 5, 4, 3, 2, 1, 0, 0, 0, 0, 0, 0}}.made(t)
	checkList(t, "Unused", s.Unused(0), []int{6})
	checkList(t, "Unused", s.Unused(1), []int{0})
	checkList(t, "Unused", s.Unused(2), nil)
	checkList(t, "Batch", s.Batch(3), []int{1, 2})
}

func TestASamplerWithoutSteps(t *testing.T) {
	for _, c := range []setting{{5, 2, 0, nil}, {1, 1, 0, nil}, {5, 5, 0, mixed(20)}, {most, 3, 0, nil}} {
		s := c.made(t)
		if s.Steps() != 0 {
			t.Errorf("Steps() = %d", s.Steps())
		}
		for _, k := range edges {
			checkEpoch(t, s, k, 0, 0, false)
			checkList(t, "Unused", s.Unused(k), nil)
			checkList(t, "Batch", s.Batch(k), nil)
			checkList(t, "Shard", s.Shard(k, 0, 1), nil)
			checkList(t, "Micro", s.Micro(k, 0, 1, 0, 1), nil)
		}
	}
}

// P12.4

func TestShardsMakeTheBatchAndMicroBatchesTheShard(t *testing.T) {
	for _, c := range settings() {
		s := c.made(t)
		for k := range c.steps {
			for _, workers := range numbersFor(c.batch) {
				var shards []int
				for w := range workers {
					shard := s.Shard(k, w, workers)
					shards = append(shards, shard...)
					for _, micros := range []int{1, 2, 3, 7} {
						var all []int
						for a := range micros {
							all = append(all, s.Micro(k, w, workers, a, micros)...)
						}
						checkList(t, "the micro-batches of a shard", all, shard)
					}
				}
				checkList(t, "the shards of a batch", shards, s.Batch(k))
			}
		}
	}
}

func TestSizesOfShardsDifferByOneAtMost(t *testing.T) {
	for _, c := range settings() {
		s := c.made(t)
		for k := range c.steps {
			for _, workers := range numbersFor(c.batch) {
				var sizes []int
				for w := range workers {
					sizes = append(sizes, len(s.Shard(k, w, workers)))
				}
				if sizes[0] > sizes[workers-1]+1 || !slices.IsSortedFunc(sizes, func(a, b int) int { return b - a }) {
					t.Fatalf("the shards of %d indices for %d workers have the sizes %d", c.batch, workers, sizes)
				}
			}
		}
	}
}

func TestEachIndexOfAnEpochIsInOneBatchOrUnused(t *testing.T) {
	for _, c := range settings() {
		s := c.made(t)
		indices := map[int][]int{} // of the batches of each epoch
		for k := range c.steps {
			e, _, _ := s.Epoch(k)
			indices[e] = append(indices[e], s.Batch(k)...)
		}
		for e, l := range indices {
			finished := len(l) == c.n/c.batch*c.batch
			l = append(l, s.Unused(e)...)
			slices.Sort(l)
			if len(slices.Compact(slices.Clone(l))) != len(l) {
				t.Fatalf("an index is there twice: %d", l)
			}
			if l[0] < 0 || l[len(l)-1] >= c.n || finished && len(l) != c.n {
				t.Fatalf("the epoch %d of %d examples has the indices %d", e, c.n, l)
			}
		}
	}
}

// All of it

func TestMoreDrawsChangeNothing(t *testing.T) {
	for _, c := range settings() {
		more := c
		more.draws = append(slices.Clone(c.draws), 1, 2, 3, great)
		checkAll(t, more.made(t), c)
	}
}

func TestMoreStepsChangeNoneInFront(t *testing.T) {
	for _, c := range settings() {
		more := with(c.n, c.batch, c.steps+c.n+3)
		s := more.made(t)
		steps, epochs := c.model()
		for k, want := range steps {
			checkList(t, "Batch", s.Batch(k), want.batch)
		}
		for k, want := range epochs {
			checkList(t, "Unused", s.Unused(k), want.unused)
		}
	}
}

func TestLeastAndGreatestDraws(t *testing.T) {
	for n := 1; n < 20; n++ {
		for _, d := range []uint64{0, great, great - 1, 1 << 63, 1<<63 - 1, 1 << 32} {
			for _, batch := range []int{1, (n + 1) / 2, n} {
				c := with(n, batch, 3)
				c.draws = slices.Repeat([]uint64{d}, len(c.draws))
				checkAll(t, c.made(t), c)
			}
		}
	}
}

func TestDrawsMayBeChangedAfterwards(t *testing.T) {
	for _, c := range settings() {
		draws := slices.Clone(c.draws)
		s, code := New(c.n, c.batch, c.steps, draws...)
		if code != api.OK {
			t.Fatal(code)
		}
		for i := range draws {
			draws[i] = ^draws[i]
		}
		checkAll(t, s, c)
	}
}

func TestResultsMayBeChanged(t *testing.T) {
	for _, c := range settings() {
		s, other := c.made(t), c.made(t)
		for k := range c.steps {
			kept, want := methods(s, k), methods(other, k)
			for _, l := range methods(s, k) {
				for _, memory := range [][]int{l[:cap(l)], append(l, -7, -8, -9)} {
					for i := range memory {
						memory[i] = -5
					}
				}
				if !same(kept, want) || !same(methods(s, k), want) || !same(methods(other, k), want) {
					t.Fatalf("after a change, %d and %d, want %d", kept, methods(s, k), want)
				}
			}
		}
		checkAll(t, s, c)
		checkAll(t, other, c)
	}
}

func TestResultsOfOneCallDoNotChangeThoseOfAnother(t *testing.T) {
	s := with(9, 6, 2).made(t)
	for at := range methods(s, 1) {
		want := methods(s, 1)
		l := methods(s, 1)
		l[at] = append(l[at], 70, 71)
		for i := range l[at] {
			l[at][i] = -1
		}
		l[at] = want[at]
		if !same(l, want) || !same(methods(s, 1), want) {
			t.Errorf("after a change of the list %d: %d and %d, want %d", at, l, methods(s, 1), want)
		}
	}
}

func TestSamplersAreIndependent(t *testing.T) {
	all := settings()
	var samplers []*Sampler
	for _, c := range all {
		samplers = append(samplers, c.made(t))
	}
	for i, c := range all {
		checkAll(t, samplers[i], c)
		New(c.n, c.batch, c.steps, mixed(len(c.draws) + 5)[5:]...)
		New(c.n, c.batch, -1)
	}
	for i, c := range slices.Backward(all) {
		checkAll(t, samplers[i], c)
	}
}

func TestArgumentsAreNotChanged(t *testing.T) {
	for _, c := range settings() {
		for _, used := range []int{len(c.draws), len(c.draws) / 2} {
			memory := append(slices.Clone(c.draws), 90, 91, 92)
			before := slices.Clone(memory)
			s, _ := New(c.n, c.batch, c.steps, memory[:used]...)
			for k := range c.steps {
				methods(s, k)
			}
			if !slices.Equal(memory, before) {
				t.Fatalf("the draws were changed from %d to %d", before, memory)
			}
		}
	}
}

func TestDrawsEndAtTheirLength(t *testing.T) {
	draws := mixed(40)
	for _, c := range []setting{with(5, 2, 2), with(5, 2, 3), with(2, 1, 1), with(9, 9, 4)} {
		need := len(c.draws)
		checkNew(t, c.n, c.batch, c.steps, draws[:need-1], api.ErrDraws)
		checkNew(t, c.n, c.batch, c.steps, draws[:need], api.OK)
	}
}

func TestCallsChangeNothing(t *testing.T) {
	c := with(10, 3, 8)
	s := c.made(t)
	for range 3 {
		checkAll(t, s, c)
		for _, k := range absent(8) {
			methods(s, k)
			s.Unused(k)
			s.Epoch(k)
			s.Shard(1, k, 4)
			s.Micro(1, 1, 2, k, 4)
		}
	}
	checkAll(t, s, c)
}

func TestANilSampler(t *testing.T) {
	var s *Sampler
	if s.Steps() != 0 {
		t.Errorf("Steps() = %d", s.Steps())
	}
	for _, i := range edges {
		checkEpoch(t, s, i, 0, 0, false)
		checkList(t, "Batch", s.Batch(i), nil)
		checkList(t, "Unused", s.Unused(i), nil)
		for _, k := range edges {
			checkList(t, "Shard", s.Shard(i, 0, k), nil)
			checkList(t, "Shard", s.Shard(0, i, k), nil)
			checkList(t, "Micro", s.Micro(i, 0, 1, 0, k), nil)
			checkList(t, "Micro", s.Micro(0, i, k, i, k), nil)
		}
	}
}

// TestCallsWithGoroutines is for go test -race: samplers may share nothing that one of them writes.
func TestCallsWithGoroutines(t *testing.T) {
	draws := mixed(40)
	var group sync.WaitGroup
	for range 8 {
		group.Go(func() {
			for range 20 {
				s, code := New(11, 4, 7, draws...)
				if code != api.OK || len(s.Batch(6)) != 4 || len(s.Shard(6, 0, 3)) != 2 || len(s.Micro(6, 0, 1, 1, 3)) != 1 || len(s.Unused(3)) != 3 {
					t.Error(code, s)
				}
			}
		})
	}
	group.Wait()
}
