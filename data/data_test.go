package data

import (
	"math"
	"runtime"
	"slices"
	"strings"
	"sync"
	"testing"

	"sakia/api"
	"sakia/deci"
)

const (
	top = math.MaxInt64
	low = math.MinInt64
)

// rightShifts has numbers of fraction bits.
var rightShifts = []int{0, 1, 2, 3, 8, 31, 32, 33, 61, 62}

// wrongShifts has numbers that are none of fraction bits.
var wrongShifts = []int{-1, -2, -62, -63, -64, 63, 64, 65, 66, 126, 127, 128, 1 << 32, 1<<32 + 1, -1 << 32, 1 << 62, low, low + 1, low + 62, top, top - 1}

// list returns numbers.
func list(l ...int64) []int64 { return l }

// of returns the example with some inputs and outputs.
func of(x, y []int64) api.Example { return api.Example{X: x, Y: y} }

// zeros returns an example with some numbers of zeros.
func zeros(in, out int) api.Example { return of(make([]int64, in), make([]int64, out)) }

// mixed returns numbers with mixed bits, of many sizes.
func mixed(n int, seed uint64) []int64 {
	var l []int64
	for i := range n {
		seed += seed*seed | 5
		l = append(l, int64(seed^seed>>23)>>(i*11%64))
	}
	return l
}

// numerals has numbers at the edges, and such as have long texts.
func numerals() []int64 {
	return append(list(0, 1, -1, 2, -2, 3, -3, 10, -10, 99, 1<<31, -1<<31, 1<<32, 1<<53+1, 1<<62, -1<<62, 1<<62-1, top, top-1, low, low+1), mixed(12, 7)...)
}

// written returns examples with inputs and outputs.
func written() []api.Example {
	l := []api.Example{
		of(list(3, 2), list(-1)),
		of(list(0), list(0)),
		of(list(-1), list(1)),
		of(list(low, top), list(top, low)),
		of(list(1, 2, 3, 4, 5), list(6, 7, 8)),
		of(list(1, 2, 3), list(4, 5, 6, 7, 8)),
		of(numerals(), list(1)),
		of(list(1), numerals()),
		of(numerals(), numerals()),
	}
	for i, x := range numerals() {
		l = append(l, of(list(x), list(-x)), of(mixed(i+1, uint64(i)), list(x, x)))
	}
	return l
}

// unwritten returns examples without inputs, outputs, or both.
func unwritten() []api.Example {
	return []api.Example{
		{},
		of(list(), list()),
		of(nil, list()),
		of(list(), nil),
		of(list(1), nil),
		of(list(1), list()),
		of(nil, list(1)),
		of(list(), list(1)),
		of(numerals(), nil),
		of(list(), numerals()),
		of(numerals()[:0], list(low)),
		of(list(top), numerals()[:0]),
	}
}

// everyShort returns all examples with up to two inputs and two outputs that are among some numbers.
func everyShort(l ...int64) []api.Example {
	sides := [][]int64{nil}
	for _, a := range l {
		sides = append(sides, list(a))
		for _, b := range l {
			sides = append(sides, list(a, b))
		}
	}
	var all []api.Example
	for _, x := range sides {
		for _, y := range sides {
			all = append(all, of(x, y))
		}
	}
	return all
}

// equal compares number by number.
func equal(a, b api.Example) bool {
	if len(a.X) != len(b.X) || len(a.Y) != len(b.Y) {
		return false
	}
	for i := range a.X {
		if a.X[i] != b.X[i] {
			return false
		}
	}
	for i := range a.Y {
		if a.Y[i] != b.Y[i] {
			return false
		}
	}
	return true
}

// textOf returns the text that an example with inputs and outputs should have.
func textOf(e api.Example, q int) string {
	var b strings.Builder
	for _, x := range e.X {
		b.WriteString(deci.Text(x, q) + " ")
	}
	b.WriteByte('>')
	for _, y := range e.Y {
		b.WriteString(" " + deci.Text(y, q))
	}
	return b.String()
}

// exampleOf returns the example that has a text, if there is one: of the words between the spaces, one is a sign, which is neither the first nor the last one, and all others are numbers.
func exampleOf(s string, q int) (api.Example, bool) {
	words := strings.Split(s, " ")
	at := slices.Index(words, ">")
	if at < 1 || at == len(words)-1 {
		return api.Example{}, false
	}
	var e api.Example
	for i, w := range words {
		if i == at {
			continue
		}
		x, ok := deci.Parse(w, q)
		if !ok {
			return api.Example{}, false
		}
		if i < at {
			e.X = append(e.X, x)
		} else {
			e.Y = append(e.Y, x)
		}
	}
	return e, true
}

// deep returns copies of examples and of the memory beyond the lengths of their lists.
func deep(l []api.Example) []api.Example {
	c := slices.Clone(l[:cap(l)])
	for i, e := range c {
		c[i] = of(slices.Clone(e.X[:cap(e.X)]), slices.Clone(e.Y[:cap(e.Y)]))
	}
	return c
}

// roomy returns copies of examples, all in lists that have more memory than they need.
func roomy(l ...api.Example) []api.Example {
	wide := func(side []int64) []int64 { return slices.Concat(side, list(81, 82, 83))[:len(side)] }
	var c []api.Example
	for _, e := range l {
		c = append(c, of(wide(e.X), wide(e.Y)))
	}
	c = append(c, of(list(84), list(85)), of(list(86), list(87)))
	return c[:len(l)]
}

// spoil changes all numbers of examples, also those beyond the lengths of their lists.
func spoil(l ...api.Example) {
	for _, e := range l {
		for _, side := range [][]int64{e.X[:cap(e.X)], e.Y[:cap(e.Y)]} {
			for i := range side {
				side[i] ^= 0x5555
			}
		}
	}
}

func checkExamples(t *testing.T, what string, got, want []api.Example) {
	t.Helper()
	if !slices.EqualFunc(got, want, equal) {
		t.Errorf("%s: %v, want %v", what, got, want)
	}
}

func checkCheck(t *testing.T, l []api.Example, in, out, index int, fine bool) {
	t.Helper()
	if i, ok := Check(l, in, out); i != index || ok != fine {
		t.Errorf("Check of %d examples, %d, %d = %d, %t, want %d, %t", len(l), in, out, i, ok, index, fine)
	}
}

func checkSame(t *testing.T, a, b api.Example, want bool) {
	t.Helper()
	if Same(a, b) != want || Same(b, a) != want {
		t.Errorf("Same(%v, %v) = %t, the other way round %t, want %t", a, b, Same(a, b), Same(b, a), want)
	}
}

func checkText(t *testing.T, e api.Example, q int, want string, fine bool) {
	t.Helper()
	if s, ok := Text(e, q); s != want || ok != fine {
		t.Errorf("Text(%v, %d) = %q, %t, want %q, %t", e, q, s, ok, want, fine)
	}
}

func checkParse(t *testing.T, s string, q int, want api.Example) {
	t.Helper()
	if e, ok := Parse(s, q); !ok || !equal(e, want) {
		t.Errorf("Parse(%q, %d) = %v, %t, want %v, true", s, q, e, ok, want)
	}
}

func checkNoParse(t *testing.T, s string, q int) {
	t.Helper()
	if e, ok := Parse(s, q); ok || !equal(e, api.Example{}) {
		t.Errorf("Parse(%.200q, %d) = %v, %t, want a zero Example and false", s, q, e, ok)
	}
}

func checkAnyParse(t *testing.T, s string, q int) {
	t.Helper()
	if e, ok := exampleOf(s, q); ok {
		checkParse(t, s, q, e)
	} else {
		checkNoParse(t, s, q)
	}
}

func checkNoPick(t *testing.T, l []api.Example, indices ...int) {
	t.Helper()
	if p, ok := Pick(l, indices...); ok || len(p) != 0 {
		t.Errorf("Pick of %d of %d examples (the first indices are %v) returned %d and %t, want nothing and false", len(indices), len(l), indices[:min(len(indices), 10)], len(p), ok)
	}
}

func checkRange(t *testing.T, l []api.Example, least, greatest int64, fine bool) {
	t.Helper()
	if lo, hi, ok := Range(l...); lo != least || hi != greatest || ok != fine {
		t.Errorf("Range(%v) = %d, %d, %t, want %d, %d, %t", l, lo, hi, ok, least, greatest, fine)
	}
}

// P10.1

func TestCheckOfNoExamples(t *testing.T) {
	for _, in := range []int{0, 1, -1, 5, low, top} {
		for _, out := range []int{0, 1, -1, 5, low, top} {
			checkCheck(t, nil, in, out, 0, true)
			checkCheck(t, []api.Example{}, in, out, 0, true)
			checkCheck(t, written()[:0], in, out, 0, true)
		}
	}
}

func TestCheckOfRightExamples(t *testing.T) {
	for _, n := range []int{1, 2, 3, 100} {
		for in := range 5 {
			for out := range 5 {
				var l []api.Example
				for i := range n {
					l = append(l, of(mixed(in, uint64(i)), mixed(out, uint64(i+n))))
				}
				checkCheck(t, l, in, out, 0, true)
				checkCheck(t, roomy(l...), in, out, 0, true)
				checkCheck(t, l, in+1, out, 0, false)
				checkCheck(t, l, in, out+1, 0, false)
				checkCheck(t, l, in-1, out, 0, false)
				checkCheck(t, l, in, out-1, 0, false)
				checkCheck(t, l, out, in, 0, in == out)
			}
		}
	}
}

func TestCheckOfOneWrongExample(t *testing.T) {
	wrong := []api.Example{
		zeros(1, 3), zeros(3, 3), zeros(0, 3), zeros(2, 2), zeros(2, 4), zeros(2, 0),
		zeros(3, 2), zeros(1, 4), zeros(3, 4), zeros(1, 2), zeros(0, 0), zeros(5, 0), zeros(0, 5), {},
	}
	for _, n := range []int{1, 2, 3, 7, 50} {
		for i := range n {
			for _, e := range wrong {
				l := slices.Repeat([]api.Example{zeros(2, 3)}, n)
				l[i] = e
				checkCheck(t, l, 2, 3, i, false)
				checkCheck(t, roomy(l...), 2, 3, i, false)
			}
		}
	}
}

func TestCheckReturnsTheFirstWrongExample(t *testing.T) {
	for i := range 6 {
		for k := i; k < 6; k++ {
			l := slices.Repeat([]api.Example{zeros(2, 1)}, 6)
			l[k] = zeros(1, 1)
			l[i] = zeros(2, 2)
			checkCheck(t, l, 2, 1, i, false)
			l[k] = zeros(2, 0)
			l[i] = zeros(3, 1)
			checkCheck(t, l, 2, 1, i, false)
		}
	}
}

func TestCheckOfExamplesWithoutNumbers(t *testing.T) {
	l := []api.Example{{}, of(list(), list()), of(nil, list()), of(list(), nil)}
	checkCheck(t, l, 0, 0, 0, true)
	checkCheck(t, l, 1, 0, 0, false)
	checkCheck(t, l, 0, 1, 0, false)
	checkCheck(t, []api.Example{of(nil, list(1)), of(list(), list(2))}, 0, 1, 0, true)
	checkCheck(t, []api.Example{of(list(1), nil), of(list(2), list())}, 1, 0, 0, true)
	checkCheck(t, append(l, of(nil, list(1))), 0, 0, 4, false)
	checkCheck(t, append(l, of(list(1), nil)), 0, 0, 4, false)
}

func TestCheckOfNumbersThatNoExampleHas(t *testing.T) {
	l := []api.Example{zeros(2, 1), zeros(0, 0)}
	for _, n := range []int{-1, -2, low, low + 2, top, 1<<32 + 2, -1 << 32} {
		checkCheck(t, l, n, 1, 0, false)
		checkCheck(t, l, 2, n, 0, false)
		checkCheck(t, l, n, n, 0, false)
		checkCheck(t, l[1:], n, 0, 0, false)
		checkCheck(t, l[1:], 0, n, 0, false)
	}
}

func TestCheckOfManyExamples(t *testing.T) {
	l := slices.Repeat([]api.Example{zeros(3, 2)}, api.MaxSize)
	checkCheck(t, l, 3, 2, 0, true)
	l[len(l)-1] = zeros(3, 1)
	checkCheck(t, l, 3, 2, len(l)-1, false)
	l[len(l)/2] = zeros(2, 2)
	checkCheck(t, l, 3, 2, len(l)/2, false)
}

func TestSameOfKnownExamples(t *testing.T) {
	e := of(list(1, 2, 3), list(4, 5, 6))
	checkSame(t, e, e, true)
	checkSame(t, e, of(list(1, 2, 3), list(4, 5, 6)), true)
	for _, other := range []api.Example{
		of(list(0, 2, 3), list(4, 5, 6)),
		of(list(1, 0, 3), list(4, 5, 6)),
		of(list(1, 2, 0), list(4, 5, 6)),
		of(list(1, 2, 3), list(0, 5, 6)),
		of(list(1, 2, 3), list(4, 0, 6)),
		of(list(1, 2, 3), list(4, 5, 0)),
		of(list(1, 2), list(4, 5, 6)),
		of(list(2, 3), list(4, 5, 6)),
		of(list(1, 2, 3, 0), list(4, 5, 6)),
		of(list(1, 2, 3), list(4, 5)),
		of(list(1, 2, 3), list(5, 6)),
		of(list(1, 2, 3), list(4, 5, 6, 0)),
		of(list(1, 2), list(3, 4, 5, 6)),
		of(list(1, 2, 3, 4), list(5, 6)),
		of(list(4, 5, 6), list(1, 2, 3)),
		of(list(3, 2, 1), list(4, 5, 6)),
		of(list(1, 2, 3), list(6, 5, 4)),
		of(list(1, 2, 3), nil),
		of(nil, list(4, 5, 6)),
		of(list(1, 2, 3, 4, 5, 6), nil),
		of(nil, list(1, 2, 3, 4, 5, 6)),
		{},
	} {
		checkSame(t, e, other, false)
	}
}

func TestSameOfEmptyLists(t *testing.T) {
	for _, none := range [][2][]int64{{nil, list()}, {list(), nil}, {nil, nil}, {list(), list()}, {nil, list(1)[:0]}} {
		a, b := none[0], none[1]
		checkSame(t, of(a, a), of(b, b), true)
		checkSame(t, of(a, b), of(b, a), true)
		checkSame(t, of(a, list(1)), of(b, list(1)), true)
		checkSame(t, of(list(1), a), of(list(1), b), true)
		checkSame(t, of(list(1), a), of(b, list(1)), false)
		checkSame(t, of(list(0), a), of(b, a), false)
		checkSame(t, of(a, list(0)), of(b, a), false)
	}
}

func TestSameOfAllShortExamples(t *testing.T) {
	l := everyShort(0, 1, low)
	for _, a := range l {
		for _, b := range l {
			checkSame(t, a, b, equal(a, b))
		}
	}
}

func TestSameLooksAtAllBits(t *testing.T) {
	l := mixed(100, 3)
	for i := range l {
		for bit := range 64 {
			other := slices.Clone(l)
			other[i] ^= 1 << bit
			checkSame(t, of(l, l), of(other, l), false)
			checkSame(t, of(l, l), of(l, other), false)
		}
	}
}

func TestSameDoesNotReadBeyondTheLength(t *testing.T) {
	e := of(list(1, 2), list(3))
	for i := range roomy(e) {
		checkSame(t, e, roomy(e)[i], true)
	}
	x := list(1, 2, 3)
	checkSame(t, of(x[:2], x[:1]), of(list(1, 2), list(1)), true)
	checkSame(t, of(x[:2], x[:1]), of(x, x[:1]), false)
}

func TestClone(t *testing.T) {
	all := append(written(), unwritten()...)
	checkExamples(t, "all", Clone(all...), all)
	checkExamples(t, "all in more memory", Clone(roomy(all...)...), all)
	for n := range all {
		checkExamples(t, "the first ones", Clone(all[:n]...), all[:n])
		checkExamples(t, "one", Clone(all[n]), all[n:n+1])
	}
	if c := Clone(); len(c) != 0 {
		t.Error(c)
	}
	if c := Clone(all[:0]...); len(c) != 0 {
		t.Error(c)
	}
}

func TestCloneOfManyExamples(t *testing.T) {
	l := slices.Repeat(written()[:4], api.MaxSize/4)
	c := Clone(l...)
	if !slices.EqualFunc(c, l, equal) {
		t.Fatal("other examples")
	}
	spoil(c[0])
	if !equal(c[4], l[4]) || !equal(l[0], written()[0]) {
		t.Error("shared memory")
	}
	long := of(mixed(api.MaxSize, 1), mixed(api.MaxSize, 2))
	if c := Clone(long); len(c) != 1 || !equal(c[0], long) {
		t.Error("another example")
	}
}

func TestClonesShareNoMemory(t *testing.T) {
	want := append(written(), unwritten()...)
	l := roomy(want...)
	c, d := Clone(l...), Clone(l...)
	spoil(c...)
	checkExamples(t, "another result", d, want)
	checkExamples(t, "the argument", l, want)
	spoil(l...)
	checkExamples(t, "a result", d, want)
	c[0] = api.Example{}
	checkExamples(t, "another result", d, want)
}

func TestClonesOfSharedMemory(t *testing.T) {
	x := list(1, 2, 3, 4)
	l := []api.Example{of(x, x), of(x[:2], x[2:]), of(x[1:3], x[:4])}
	want := deep(l)
	for i, w := range []api.Example{of(list(1, 2, 3, 4), list(1, 2, 3, 4)), of(list(1, 2), list(3, 4)), of(list(2, 3), list(1, 2, 3, 4))} {
		want[i] = w
	}
	for i := range l {
		c := Clone(l...)
		spoil(of(c[i].X, nil))
		if !equal(of(nil, c[i].Y), of(nil, want[i].Y)) {
			t.Errorf("the outputs of the example %d changed with its inputs", i)
		}
		spoil(of(nil, c[i].Y))
		c[i] = want[i]
		checkExamples(t, "the others", c, want)
		checkExamples(t, "the argument", l, want)
	}
}

func TestAppendingToClones(t *testing.T) {
	l := roomy(written()...)
	c := Clone(l...)
	for _, e := range c {
		_, _ = append(e.X, 77), append(e.Y, 77)
	}
	_ = append(c, zeros(1, 1))
	checkExamples(t, "the clones", c, written())
	checkExamples(t, "the argument", deep(l), deep(roomy(written()...)))
}

// P10.2

// known has texts that are written out here.
var known = []struct {
	e    api.Example
	q    int
	text string
}{
	{of(list(3, 2), list(-1)), 1, "1.5 1 > -0.5"},
	{of(list(3, 2), list(-1)), 0, "3 2 > -1"},
	{of(list(3, 2), list(-1)), 2, "0.75 0.5 > -0.25"},
	{of(list(1), list(2)), 0, "1 > 2"},
	{of(list(0), list(0)), 0, "0 > 0"},
	{of(list(0), list(0)), 62, "0 > 0"},
	{of(list(0, 0), list(0, 0)), 8, "0 0 > 0 0"},
	{of(list(1, 2, 3), list(4, 5, 6)), 0, "1 2 3 > 4 5 6"},
	{of(list(-1, -2, -3), list(-4)), 0, "-1 -2 -3 > -4"},
	{of(list(-1), list(-2, 3, -4)), 0, "-1 > -2 3 -4"},
	{of(list(1<<8, -1<<8), list(257)), 8, "1 -1 > 1.00390625"},
	{of(list(low, top), list(top, low)), 0, "-9223372036854775808 9223372036854775807 > 9223372036854775807 -9223372036854775808"},
	{of(list(low), list(1<<62)), 62, "-2 > 1"},
	{of(list(-1<<62), list(low)), 61, "-2 > -4"},
	{of(list(1), list(top)), 62, "0.00000000000000000021684043449710088680149056017398834228515625 > 1.99999999999999999978315956550289911319850943982601165771484375"},
}

func TestTextOfKnownExamples(t *testing.T) {
	for _, k := range known {
		checkText(t, k.e, k.q, k.text, true)
	}
}

func TestText(t *testing.T) {
	for q := range 63 {
		for _, e := range written() {
			checkText(t, e, q, textOf(e, q), true)
			checkText(t, roomy(e)[0], q, textOf(e, q), true)
		}
	}
}

func TestTextOfExamplesWithoutInputsOrOutputs(t *testing.T) {
	for _, e := range unwritten() {
		for _, q := range append(rightShifts, wrongShifts...) {
			checkText(t, e, q, "", false)
			checkText(t, roomy(e)[0], q, "", false)
		}
	}
}

func TestTextWithAWrongShift(t *testing.T) {
	for _, q := range wrongShifts {
		for _, e := range written() {
			checkText(t, e, q, "", false)
		}
	}
}

func TestTextOfManyNumbers(t *testing.T) {
	long := mixed(api.MaxSize/16, 5)
	e := of(long, long)
	for _, q := range []int{0, 30} {
		s, ok := Text(e, q)
		if !ok || s != textOf(e, q) {
			t.Errorf("another text with q = %d", q)
		}
		if p, ok := Parse(s, q); !ok || !equal(p, e) {
			t.Errorf("another example with q = %d", q)
		}
	}
}

// allocated returns how many bytes a function asks for.
func allocated(f func()) uint64 {
	var before, after runtime.MemStats
	runtime.ReadMemStats(&before)
	f()
	runtime.ReadMemStats(&after)
	return after.TotalAlloc - before.TotalAlloc
}

func TestNoTextNeedsNoMemory(t *testing.T) {
	long := mixed(api.MaxSize, 6)
	for _, e := range []api.Example{of(long, nil), of(nil, long)} {
		if n := allocated(func() { checkText(t, e, 40, "", false) }); n > 1<<16 {
			t.Errorf("%d bytes", n)
		}
	}
	if n := allocated(func() { checkText(t, of(long, long), 63, "", false) }); n > 1<<16 {
		t.Errorf("%d bytes", n)
	}
}

func TestParseOfKnownTexts(t *testing.T) {
	for _, k := range known {
		checkParse(t, k.text, k.q, k.e)
	}
}

func TestParseWithAWrongShift(t *testing.T) {
	for _, q := range wrongShifts {
		for _, k := range known {
			checkNoParse(t, k.text, q)
		}
		checkNoParse(t, "", q)
		checkNoParse(t, ">", q)
		checkNoParse(t, " > ", q)
	}
}

func TestParseOfOtherTexts(t *testing.T) {
	for _, s := range []string{
		"", " ", "  ", "   ", ">", " >", "> ", " > ", ">>", " >> ", " > > ", "  >  ",
		"1", "1 2", "1 2 3", "-1", "1.5 1",
		"1 >", "1 > ", "> 1", " > 1", "1 2 >", "> 1 2", " > 1 2", "1 2 > ",
		"1>2", "1> 2", "1 >2", "1>2 3", "1 2>3", "1 2> 3", "1 2 >3",
		"1  > 2", "1 >  2", "1  >  2", "1  2 > 3", "1 > 2  3", "1 2  3 > 4",
		" 1 > 2", "1 > 2 ", " 1 > 2 ", "  1 > 2", "1 > 2  ",
		"1 > 2 > 3", "1 > > 2", "1 > 2 >", "> 1 > 2", "1 >> 2", "1 > 2 > ", " > 1 > 2",
		"1 < 2", "1 = 2", "1 - 2", "1 -> 2", "1 => 2", "1 >= 2", "1 ; 2", "1 | 2", "1 & 2",
		"1\t> 2", "1 >\t2", "1 >\n2", "1 > 2\n", "\n1 > 2", "1 > 2\r\n", "1\n> 2", "1\t2 > 3", "1 > 2\x00", "\x001 > 2", "1 \x00> 2",
		"1,2 > 3", "1, 2 > 3", "1 > 2,3", "1 > 2, 3", "(1 > 2)", "[1] > [2]", "\"1 > 2\"", "1 > 2.", "1 > 2;",
		"x > 1", "1 > x", "1 x > 2", "1 > 2 x", "x1 > 2", "1x > 2", "1 > x2", "1 > 2x",
		"01 > 2", "1 > 02", "-0 > 1", "1 > -0", "+1 > 2", "1 > +2", "1.0 > 2", "1 > 2.0", "1.50 > 2", "1 > 2.50", ".5 > 1", "1 > .5", "1. > 2", "- > 1", "1 > -", "-1 > --1", "1e3 > 2", "0x1 > 2", "1_0 > 2", "- 1 > 2", "1 > - 2", "1 .5 > 2", "NaN > 1", "Inf > 1",
		"00 > 0", "0 > 00", "1 2 3 04 > 5", "1 > 2 3 04",
		"0.3 > 1", "1 > 0.3", "0.125 > 1", "1 > 0.125",
		"1\u00a0> 2", "1 >\u00a02", "1\u2003> 2", "1 \uff1e 2", "1 \u203a 2", "1 \u2192 2", "\u22121 > 2", "1 > \u22122", "\u0661 > 2", "1 > \u0662", "\uff11 > 2", "1 > \uff12", "\ufeff1 > 2", "1 > 2\ufeff", "\u20091 > 2", "\u00e9 > 1", "1 > \u00e9", "1 \u0338> 2", "1 >\u0338 2",
		"\xff > 1", "1 > \xff", "1 \xff> 2", "1 >\x80 2", "\xc3 1 > 2", "1 > 2\xc3", "\xe2\x86 1 > 2",
	} {
		for _, q := range []int{0, 1, 2} {
			if _, ok := exampleOf(s, q); ok {
				t.Fatalf("the model takes %q with q = %d", s, q)
			}
			checkNoParse(t, s, q)
		}
	}
}

func TestParseOfNumbersOfAnotherShift(t *testing.T) {
	for _, side := range [2]string{"0.25", "-1.75"} {
		for _, s := range []string{side + " > 1", "1 > " + side, side + " 1 > 1", "1 " + side + " > 1", "1 > " + side + " 1", "1 > 1 " + side, "1 1 " + side + " 1 > 1", "1 > 1 1 " + side + " 1"} {
			checkNoParse(t, s, 0)
			checkNoParse(t, s, 1)
			if _, ok := Parse(s, 2); !ok {
				t.Errorf("Parse(%q, 2)", s)
			}
		}
	}
	checkParse(t, "4 > 1", 60, of(list(4<<60), list(1<<60)))
	checkNoParse(t, "4 > 1", 61)
	checkNoParse(t, "1 > 4", 61)
	checkParse(t, "-4 > 1", 61, of(list(low), list(1<<61)))
	checkNoParse(t, "-4 > 1", 62)
	checkNoParse(t, "9223372036854775808 > 1", 0)
	checkNoParse(t, "1 > 9223372036854775808", 0)
	checkNoParse(t, "-9223372036854775809 > 1", 0)
	checkNoParse(t, "1 > -9223372036854775809", 0)
	checkNoParse(t, "18446744073709551617 > 1", 0)
}

func TestParseOfTextsWithOneNumberThatIsNone(t *testing.T) {
	for _, n := range []int{1, 2, 3, 6} {
		for at := range 2 * n {
			for _, bad := range []string{"", " ", "x", "-", "01", "1.25", "1 ", " 1", ">", "> 1", "1 >"} {
				words := slices.Repeat([]string{"1"}, 2*n)
				words[at] = bad
				s := strings.Join(words[:n], " ") + " > " + strings.Join(words[n:], " ")
				checkNoParse(t, s, 1)
			}
		}
	}
}

func TestParseOfAllShortTexts(t *testing.T) {
	found := 0
	var grow func(s string, n int)
	grow = func(s string, n int) {
		checkAnyParse(t, s, 1)
		if _, ok := Parse(s, 1); ok {
			found++
		}
		if n == 0 {
			return
		}
		for _, part := range []string{"1", "-2", "0.5", " ", ">", " > "} {
			grow(s+part, n-1)
		}
	}
	grow("", 6)
	if found < 100 {
		t.Errorf("only %d of them are texts", found)
	}
}

func TestParseOfTextsChangedAtOnePlace(t *testing.T) {
	for _, k := range known {
		for i := range len(k.text) + 1 {
			before, after := k.text[:i], k.text[i:]
			if i < len(k.text) {
				checkAnyParse(t, before+after[1:], k.q)
			}
			for _, c := range []string{" ", ">", "-", ".", "0", "1", "5", "x", "\t", "\n", "\u00a0", "\xff", " > ", " 1"} {
				checkAnyParse(t, before+c+after, k.q)
				if i < len(k.text) {
					checkAnyParse(t, before+c+after[1:], k.q)
				}
			}
			checkAnyParse(t, before, k.q)
			checkAnyParse(t, after, k.q)
		}
	}
}

func TestParseOfLongTexts(t *testing.T) {
	const n = 1 << 18
	for _, c := range []string{" ", ">", " >", "> ", " > ", "1", "1 ", " 1", "-", "0", ".", "1 > ", "\u00e9", "\xff"} {
		long := strings.Repeat(c, n)
		checkNoParse(t, long, 0)
		checkNoParse(t, "1 > "+long, 0)
		checkNoParse(t, long+" > 1", 0)
	}
	ones := strings.Repeat("1 ", n)
	e, ok := Parse(ones+">"+ones[:n-2]+" 1", 0)
	if ok {
		t.Error("no space after the sign")
	}
	e, ok = Parse(ones+"> "+ones[:len(ones)-1], 0)
	if !ok || len(e.X) != n || len(e.Y) != n || slices.Max(e.X) != 1 || slices.Min(e.Y) != 1 {
		t.Errorf("%d inputs, %d outputs, %t", len(e.X), len(e.Y), ok)
	}
	checkNoParse(t, ones+"> "+ones, 0)
	checkNoParse(t, ones+"> "+ones+"x", 0)
	checkNoParse(t, "0."+strings.Repeat("0", n)+"1 > 1", 62)
}

func TestParsedNumbersShareNoMemory(t *testing.T) {
	const s = "1 2 3 > 4 5"
	want := of(list(1, 2, 3), list(4, 5))
	a, _ := Parse(s, 0)
	b, _ := Parse(s, 0)
	_, _ = append(a.X, 9), append(a.Y, 9)
	if !equal(a, want) {
		t.Error(a)
	}
	spoil(of(a.X, nil))
	if !slices.Equal(a.Y, want.Y) {
		t.Error("the outputs changed with the inputs")
	}
	spoil(of(nil, a.Y))
	if !equal(b, want) {
		t.Error(b)
	}
	checkParse(t, s, 0, want)
}

// P10.3

func TestPickOfKnownIndices(t *testing.T) {
	a, b, c := of(list(1), list(2)), of(list(3, 4), nil), api.Example{}
	l := []api.Example{a, b, c}
	for _, k := range []struct {
		indices []int
		want    []api.Example
	}{
		{nil, nil},
		{[]int{}, nil},
		{[]int{0}, []api.Example{a}},
		{[]int{1}, []api.Example{b}},
		{[]int{2}, []api.Example{c}},
		{[]int{0, 1, 2}, l},
		{[]int{2, 1, 0}, []api.Example{c, b, a}},
		{[]int{1, 1, 1, 1}, []api.Example{b, b, b, b}},
		{[]int{1, 0, 1}, []api.Example{b, a, b}},
		{[]int{0, 2}, []api.Example{a, c}},
	} {
		p, ok := Pick(l, k.indices...)
		if !ok {
			t.Errorf("Pick(%v)", k.indices)
		}
		checkExamples(t, "picked", p, k.want)
	}
}

func TestPick(t *testing.T) {
	all := append(written(), unwritten()...)
	for n := 1; n <= len(all); n++ {
		l := roomy(all[:n]...)
		var indices []int
		var want []api.Example
		for i := range 3 * n {
			k := i * i * 7 % n
			indices = append(indices, k, n-1-k)
			want = append(want, all[k], all[n-1-k])
		}
		p, ok := Pick(l, indices...)
		if !ok {
			t.Errorf("Pick of %d examples", n)
		}
		checkExamples(t, "picked", p, want)
	}
}

func TestPickOfNoIndices(t *testing.T) {
	for _, l := range [][]api.Example{nil, {}, written()[:0], written()} {
		if p, ok := Pick(l); len(p) != 0 || !ok {
			t.Errorf("Pick of %d examples = %v, %t", len(l), p, ok)
		}
	}
}

func TestPickOfWrongIndices(t *testing.T) {
	for n := range 5 {
		l := roomy(written()[:n]...)
		for _, bad := range []int{-1, -2, -n - 1, n, n + 1, n + 2, low, low + 1, low + n, top, top - 1, 1 << 32, -1 << 32} {
			checkNoPick(t, l, bad)
			if n == 0 {
				continue
			}
			for at := range 6 {
				indices := []int{0, n - 1, n / 2, 0, n - 1, 0}
				indices[at] = bad
				checkNoPick(t, l, indices...)
				indices[5-at] = bad
				checkNoPick(t, l, indices...)
			}
		}
	}
	checkNoPick(t, nil, 0)
	checkNoPick(t, []api.Example{}, 0)
	checkNoPick(t, written()[:0], 0, 0)
	checkNoPick(t, written()[:3:3], 0, 1, 2, 3)
}

func TestPickOfManyIndices(t *testing.T) {
	l := written()
	indices := make([]int, api.MaxSize)
	for i := range indices {
		indices[i] = (i ^ i>>7) % 5
	}
	p, ok := Pick(l, indices...)
	if !ok || len(p) != len(indices) {
		t.Fatal(len(p), ok)
	}
	for i, e := range p {
		if !equal(e, l[indices[i]]) {
			t.Fatalf("the example %d is %v", i, e)
		}
	}
	indices[len(indices)-1] = len(l)
	checkNoPick(t, l, indices...)
}

func TestPickCopiesNothingForAWrongIndex(t *testing.T) {
	l := []api.Example{of(mixed(api.MaxSize, 8), mixed(api.MaxSize, 9))}
	indices := append(make([]int, 60), 1)
	if n := allocated(func() { checkNoPick(t, l, indices...) }); n > 1<<20 {
		t.Errorf("%d bytes", n)
	}
}

func TestPickedExamplesShareNoMemory(t *testing.T) {
	want := append(written(), unwritten()...)
	l := roomy(want...)
	indices := []int{2, 0, 2, 2, len(l) - 1, 1, 0}
	var picked []api.Example
	for _, i := range indices {
		picked = append(picked, want[i])
	}
	for i := range indices {
		p, _ := Pick(l, indices...)
		other, _ := Pick(l, indices...)
		_, _ = append(p[i].X, 5), append(p[i].Y, 5)
		spoil(of(p[i].X, nil))
		if !slices.Equal(p[i].Y, picked[i].Y) {
			t.Errorf("the outputs of the example %d changed with its inputs", i)
		}
		spoil(of(nil, p[i].Y))
		p[i] = picked[i]
		checkExamples(t, "the other picked ones", p, picked)
		checkExamples(t, "another result", other, picked)
		checkExamples(t, "the argument", deep(l), deep(roomy(want...)))
	}
	p, _ := Pick(l, indices...)
	spoil(l...)
	checkExamples(t, "the picked ones", p, picked)
}

func TestPickOfSharedMemory(t *testing.T) {
	x := list(1, 2, 3)
	p, ok := Pick([]api.Example{of(x, x), of(x[:2], x[1:])}, 0, 1)
	if !ok {
		t.Fatal("not picked")
	}
	p[0].X[1] = 9
	p[1].Y[0] = 8
	checkExamples(t, "picked", p, []api.Example{of(list(1, 9, 3), list(1, 2, 3)), of(list(1, 2), list(8, 3))})
	if !slices.Equal(x, list(1, 2, 3)) {
		t.Error(x)
	}
}

// P10.4

func TestRangeOfKnownExamples(t *testing.T) {
	for _, k := range []struct {
		l      []api.Example
		lo, hi int64
	}{
		{[]api.Example{of(list(5), nil)}, 5, 5},
		{[]api.Example{of(nil, list(5))}, 5, 5},
		{[]api.Example{of(list(-5), nil)}, -5, -5},
		{[]api.Example{of(nil, list(-5))}, -5, -5},
		{[]api.Example{of(list(0), nil)}, 0, 0},
		{[]api.Example{of(list(low), nil)}, low, low},
		{[]api.Example{of(nil, list(top))}, top, top},
		{[]api.Example{of(list(3, 2), list(-1))}, -1, 3},
		{[]api.Example{of(list(3), list(7, 5))}, 3, 7},
		{[]api.Example{of(list(1, 2), list(3)), of(list(-4), list(9))}, -4, 9},
		{[]api.Example{of(list(-1, -2), list(-3)), of(list(-4), list(-9))}, -9, -1},
		{[]api.Example{of(list(low, top), list(0))}, low, top},
		{[]api.Example{of(list(top), list(low))}, low, top},
		{[]api.Example{of(list(top, top-1), list(top))}, top - 1, top},
		{[]api.Example{{}, of(list(2), nil), {}, of(nil, list(1)), {}}, 1, 2},
	} {
		checkRange(t, k.l, k.lo, k.hi, true)
		slices.Reverse(k.l)
		checkRange(t, k.l, k.lo, k.hi, true)
	}
}

func TestRangeOfNoNumbers(t *testing.T) {
	checkRange(t, nil, 0, 0, false)
	checkRange(t, []api.Example{}, 0, 0, false)
	checkRange(t, written()[:0], 0, 0, false)
	checkRange(t, []api.Example{{}}, 0, 0, false)
	checkRange(t, []api.Example{{}, of(list(), list()), of(nil, list()), of(list(), nil), of(list(1)[:0], list(2)[:0])}, 0, 0, false)
	checkRange(t, make([]api.Example, 1000), 0, 0, false)
	checkRange(t, roomy(make([]api.Example, 10)...), 0, 0, false)
}

func TestRangeWithTheLeastAndTheGreatestNumberAtEachPlace(t *testing.T) {
	const examples, in, out = 3, 3, 2
	const n = examples * (in + out)
	for i := range n {
		for k := range n {
			if i == k {
				continue
			}
			for _, ends := range [][2]int64{{-5, 5}, {low, top}, {100, 200}, {-200, -100}, {0, 3}, {-3, 0}} {
				middle := ends[0] + 1
				l := slices.Repeat(list(middle), n)
				l[i], l[k] = ends[0], ends[1]
				var given []api.Example
				for e := range examples {
					at := e * (in + out)
					given = append(given, of(l[at:at+in], l[at+in:at+in+out]))
				}
				checkRange(t, given, ends[0], ends[1], true)
			}
		}
	}
}

func TestRangeWithOneNumberAmongManyExamples(t *testing.T) {
	for i := range 20 {
		for _, x := range []int64{0, 7, -7, low, top} {
			l := make([]api.Example, 20)
			l[i] = of(list(x), nil)
			checkRange(t, l, x, x, true)
			l[i] = of(nil, list(x))
			checkRange(t, l, x, x, true)
		}
	}
}

func TestRangeOfMixedExamples(t *testing.T) {
	var l []api.Example
	var all []int64
	for i, e := range append(written(), unwritten()...) {
		for _, x := range [][]int64{e.X, e.Y} {
			all = append(all, x...)
		}
		l = append(l, e)
		checkRange(t, l, slices.Min(all), slices.Max(all), true)
		checkRange(t, roomy(l...), slices.Min(all), slices.Max(all), true)
		if numbers := append(slices.Clone(e.X), e.Y...); len(numbers) > 0 {
			checkRange(t, l[i:], slices.Min(numbers), slices.Max(numbers), true)
		} else {
			checkRange(t, l[i:], 0, 0, false)
		}
	}
}

func TestRangeOfManyNumbers(t *testing.T) {
	long := make([]int64, api.MaxSize)
	e := of(long, slices.Clone(long))
	e.X[len(long)-1], e.Y[len(long)-1] = 7, -7
	checkLongRange := func(l ...api.Example) {
		t.Helper()
		if lo, hi, ok := Range(l...); lo != -7 || hi != 7 || !ok {
			t.Error(lo, hi, ok)
		}
	}
	checkLongRange(e)
	l := slices.Repeat([]api.Example{zeros(1, 1)}, api.MaxSize)
	l[len(l)-1] = of(list(-7), list(7))
	checkLongRange(l...)
}

func TestNumbersMayBeLeftEarly(t *testing.T) {
	l := []api.Example{of(list(1, 2), list(3, 4)), {}, of(nil, list(5)), of(list(6), nil)}
	for n := 1; n <= 6; n++ {
		var seen []int64
		for x := range numbers(l...) {
			seen = append(seen, x)
			if len(seen) == n {
				break
			}
		}
		if !slices.Equal(seen, list(1, 2, 3, 4, 5, 6)[:n]) {
			t.Errorf("the first %d are %v", n, seen)
		}
	}
}

// P10.5

func TestParseInvertsText(t *testing.T) {
	for _, q := range rightShifts {
		for _, e := range append(written(), everyShort(0, 1, -1, top)...) {
			s, ok := Text(e, q)
			if ok != (len(e.X) > 0 && len(e.Y) > 0) {
				t.Errorf("Text(%v, %d) = %q, %t", e, q, s, ok)
			}
			if ok {
				checkParse(t, s, q, e)
			} else {
				checkNoParse(t, s, q)
			}
		}
	}
}

func TestTextInvertsParse(t *testing.T) {
	for _, s := range []string{"1 > 2", "1 2 > 3 4", "0 > 0", "-0.5 > 0.5", "0.25 > -0.75", "7 7 7 7 > 7", "1.5 1 > -0.5", "1.50 > 1", "01 > 1", "1 >  1", "-0 > 0"} {
		for q := range 4 {
			e, ok := Parse(s, q)
			if !ok {
				continue
			}
			checkText(t, e, q, s, true)
		}
	}
}

func TestExamplesHaveTheSameTextExactlyIfTheyAreTheSame(t *testing.T) {
	l := append(everyShort(0, 1, -1, 11, low), written()...)
	for _, q := range []int{0, 1, 62} {
		seen := map[string]api.Example{}
		for _, e := range l {
			s, ok := Text(e, q)
			if !ok {
				continue
			}
			if other, again := seen[s]; again && !Same(e, other) {
				t.Errorf("%v and %v have the text %q", e, other, s)
			}
			seen[s] = e
			if again, _ := Text(Clone(e)[0], q); again != s {
				t.Errorf("a copy of %v has the text %q, not %q", e, again, s)
			}
		}
	}
}

// All of it

func TestArgumentsAreNotChanged(t *testing.T) {
	all := append(written(), unwritten()...)
	l := roomy(all...)
	before := deep(l)
	indices := append([]int{3, 1, 3, 0}, 70, 71, 72)[:4]
	Check(l, 1, 1)
	Check(l, low, top)
	Clone(l...)
	for i, e := range l {
		Same(e, l[0])
		Same(l[len(l)-1-i], e)
		Text(e, 3)
		Text(e, 63)
	}
	Pick(l, indices...)
	Pick(l, -1)
	Pick(l, len(l))
	Range(l...)
	checkExamples(t, "the examples", deep(l), before)
	if !slices.Equal(indices[:7], []int{3, 1, 3, 0, 70, 71, 72}) {
		t.Error(indices[:7])
	}
}

func TestCallsChangeNothing(t *testing.T) {
	l := written()
	first, _ := Text(l[0], 1)
	lo, hi, _ := Range(l...)
	for range 3 {
		checkText(t, l[0], 1, first, true)
		checkText(t, l[0], 99, "", false)
		checkNoParse(t, first+" ", 1)
		checkParse(t, first, 1, l[0])
		checkNoPick(t, l, 0, len(l))
		p, _ := Pick(l, 0, 1)
		checkExamples(t, "picked", p, l[:2])
		checkRange(t, nil, 0, 0, false)
		checkRange(t, l, lo, hi, true)
		checkCheck(t, l, 2, 1, 1, false)
		checkCheck(t, l[:1], 2, 1, 0, true)
	}
}

func TestCallsWithGoroutines(t *testing.T) {
	l := roomy(written()...)
	var wait sync.WaitGroup
	for i := range 8 {
		wait.Go(func() {
			for k, e := range l {
				q := (i + k) % 63
				s := textOf(e, q)
				checkText(t, e, q, s, true)
				checkParse(t, s, q, e)
				checkSame(t, e, l[(k+1)%len(l)], equal(e, l[(k+1)%len(l)]))
				p, ok := Pick(l, k, k, 0)
				if !ok {
					t.Errorf("Pick of %d", k)
				}
				checkExamples(t, "picked", p, []api.Example{e, e, l[0]})
				spoil(p...)
				checkCheck(t, l, 2, 1, 1, false)
			}
			checkRange(t, l, low, top, true)
			c := Clone(l...)
			spoil(c...)
		})
	}
	wait.Wait()
	checkExamples(t, "the examples", l, written())
}
