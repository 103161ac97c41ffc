package deci

import (
	"math"
	"math/big"
	"regexp"
	"strings"
	"testing"
)

const (
	top = math.MaxInt64
	low = math.MinInt64
)

// outside has numbers that are no q.
var outside = []int{low, low + 1, -64, -63, -62, -1, 63, 64, 65, 126, 127, 128, 1 << 32, top}

// samples returns the edges of int64, numbers around powers of 2, and numbers with mixed bits.
func samples() []int64 {
	l := []int64{0, 1, -1, 2, -2, 3, -3, 5, -5, 9, -9, 10, -10, 100, -100, low, low + 1, low + 2, top, top - 1}
	for k := 2; k < 63; k++ {
		p := int64(1) << k
		l = append(l, p, p-1, p+1, -p, -p-1, -p+1)
	}
	x := uint64(0x9e3779b97f4a7c15)
	for range 50 {
		x ^= x << 13
		x ^= x >> 7
		x ^= x << 17
		l = append(l, int64(x), int64(x)>>20, int64(x)>>40)
	}
	return l
}

// quotient returns x/2^q.
func quotient(x int64, q int) *big.Rat {
	d := new(big.Int).Exp(big.NewInt(2), big.NewInt(int64(q)), nil)
	return new(big.Rat).SetFrac(big.NewInt(x), d)
}

// text returns the text of x/2^q as package big writes it: q digits after the point are all there can be.
func text(x int64, q int) string {
	s := quotient(x, q).FloatString(q)
	if q > 0 {
		s = strings.TrimSuffix(strings.TrimRight(s, "0"), ".")
	}
	return s
}

var textForm = regexp.MustCompile(`^-?(0|[1-9][0-9]*)(\.[0-9]*[1-9])?$`)

// parse returns the number with a text as package big reads it.
func parse(s string, q int) (int64, bool) {
	if !textForm.MatchString(s) || s == "-0" {
		return 0, false
	}
	r, ok := new(big.Rat).SetString(s)
	if !ok {
		return 0, false
	}
	d := new(big.Int).Exp(big.NewInt(2), big.NewInt(int64(q)), nil)
	r.Mul(r, new(big.Rat).SetInt(d))
	if !r.IsInt() || !r.Num().IsInt64() {
		return 0, false
	}
	return r.Num().Int64(), true
}

// everyText calls f with all strings of at most n of the parts.
func everyText(n int, parts string, f func(s string)) {
	l := []string{""}
	for range n + 1 {
		var next []string
		for _, s := range l {
			f(s)
			for _, p := range parts {
				next = append(next, s+string(p))
			}
		}
		l = next
	}
}

func checkParse(t *testing.T, s string, q int, want int64, ok bool) {
	t.Helper()
	if got, fine := Parse(s, q); got != want || fine != ok {
		t.Errorf("Parse(%q, %d) = %d, %t, want %d, %t", s, q, got, fine, want, ok)
	}
}

func checkNumber(t *testing.T, s string, want int64, ok bool) {
	t.Helper()
	if got, fine := Number(s); got != want || fine != ok {
		t.Errorf("Number(%q) = %d, %t, want %d, %t", s, got, fine, want, ok)
	}
}

func checkNatural(t *testing.T, s string, most, want int, ok bool) {
	t.Helper()
	if got, fine := Natural(s, most); got != want || fine != ok {
		t.Errorf("Natural(%q, %d) = %d, %t, want %d, %t", s, most, got, fine, want, ok)
	}
}

// P2.1

// known has texts that are written out here.
var known = []struct {
	x    int64
	q    int
	text string
}{
	{0, 0, "0"},
	{0, 1, "0"},
	{0, 62, "0"},
	{3, 1, "1.5"},
	{-1, 2, "-0.25"},
	{-3, 2, "-0.75"},
	{-4, 2, "-1"},
	{-5, 2, "-1.25"},
	{7, 0, "7"},
	{-10, 0, "-10"},
	{1, 1, "0.5"},
	{-1, 1, "-0.5"},
	{1, 4, "0.0625"},
	{257, 8, "1.00390625"},
	{1000 << 8, 8, "1000"},
	{1 << 62, 62, "1"},
	{-1 << 62, 62, "-1"},
	{1, 62, "0.00000000000000000021684043449710088680149056017398834228515625"},
	{-1, 62, "-0.00000000000000000021684043449710088680149056017398834228515625"},
	{1<<62 - 1, 62, "0.99999999999999999978315956550289911319850943982601165771484375"},
	{top, 62, "1.99999999999999999978315956550289911319850943982601165771484375"},
	{low + 1, 62, "-1.99999999999999999978315956550289911319850943982601165771484375"},
	{low, 62, "-2"},
	{low, 61, "-4"},
	{top, 0, "9223372036854775807"},
	{low, 0, "-9223372036854775808"},
	{top, 1, "4611686018427387903.5"},
	{low, 1, "-4611686018427387904"},
	{low + 1, 1, "-4611686018427387903.5"},
}

func TestKnownTexts(t *testing.T) {
	for _, c := range known {
		if got := Text(c.x, c.q); got != c.text {
			t.Errorf("Text(%d, %d) = %q, want %q", c.x, c.q, got, c.text)
		}
		checkParse(t, c.text, c.q, c.x, true)
	}
}

func TestTextIsExact(t *testing.T) {
	for _, x := range samples() {
		for q := range 63 {
			if got, want := Text(x, q), text(x, q); got != want {
				t.Errorf("Text(%d, %d) = %q, want %q", x, q, got, want)
			}
		}
	}
}

func TestTextHasItsForm(t *testing.T) {
	for _, x := range samples() {
		for q := range 63 {
			s := Text(x, q)
			_, fraction, _ := strings.Cut(s, ".")
			if !textForm.MatchString(s) || strings.HasPrefix(s, "-") != (x < 0) || len(fraction) > q {
				t.Errorf("Text(%d, %d) = %q", x, q, s)
			}
		}
	}
}

func TestTextAndParseOutside(t *testing.T) {
	for _, q := range outside {
		for _, x := range samples() {
			if got := Text(x, q); got != "" {
				t.Errorf("Text(%d, %d) = %q, want none", x, q, got)
			}
		}
		for _, s := range []string{"", "0", "1", "-1", "0.5", "-0.25", "9223372036854775807", "x"} {
			checkParse(t, s, q, 0, false)
		}
	}
}

func TestParseRefusesFaultyTexts(t *testing.T) {
	for _, s := range []string{
		"", "-", ".", "-.", "--", "--1", "-0", "-0.0", "-0.", "+1", "+0", "1-", "0-1", "-+1",
		"00", "01", "-01", "00.5", "01.5", "000", "-00.5",
		"1.", "0.", "-1.", ".5", "-.5", "1.0", "0.0", "1.50", "0.250", "-0.50", "1.5.", "1..5", "1.5.5", "..5",
		" 1", "1 ", "1 .5", "1. 5", "\t1", "1\n", "1\x00", "\x001",
		"1e3", "0x1", "1_0", "1,5", "1/2", "1:", "a", "NaN", "Inf", "1.5a", "1.a5", "a.5",
		"−1", "１", "٣", "0.５", "1.٥", "\xff", "1\xff", "1.5\xff", "\xc0\xb1", "-\xff", "½",
		"0.-5", "1.-5", "1.+5", "-1.-5", "0.5-",
	} {
		for q := range 63 {
			checkParse(t, s, q, 0, false)
		}
	}
}

func TestParseRefusesFractionsThatDoNotFit(t *testing.T) {
	for _, c := range []struct {
		s string
		q int
	}{
		{"0.5", 0}, {"1.5", 0}, {"-0.5", 0},
		{"0.25", 1}, {"0.75", 1}, {"0.3", 1}, {"0.1", 62}, {"0.6", 1}, {"0.4", 1}, {"0.9", 1}, {"0.99", 1},
		{"0.125", 2}, {"0.24", 2}, {"0.26", 2}, {"0.50000000000000000000000001", 2}, {"0.4999999999999999999", 1}, {"0.49999999999999999999", 1},
		{"0.99999999999999999999999", 62}, {"0.9999999999999999999", 62}, {"-1.9999999999999999999", 62}, {"0.9999999999999999999", 0},
		{"0.0000000000000000001", 62}, {"0.00000000000000000001", 62}, {"0.000000000000000000000000000000000000000001", 62},
		{"0.00000000000000000021684043449710088680149056017398834228515624", 62},
		{"0.00000000000000000021684043449710088680149056017398834228515626", 62},
		{"0.0000000000000000002168404344971008868014905601739883422851562", 62},
		{"0.000000000000000000216840434497100886801490560173988342285156251", 62},
		{"0.00000000000000000021684043449710088680149056017398834228515625", 61},
		{"0.000000000000000000108420217248550443400745280086994171142578125", 62}, // 2^-63
	} {
		checkParse(t, c.s, c.q, 0, false)
	}
}

func TestParseRefusesNumbersTooLarge(t *testing.T) {
	for _, c := range []struct {
		s string
		q int
	}{
		{"9223372036854775808", 0}, {"-9223372036854775809", 0}, {"9999999999999999999", 0}, {"-9999999999999999999", 0},
		{"10000000000000000000", 0}, {"18446744073709551615", 0}, {"18446744073709551616", 0}, {"18446744073709551617", 0}, {"-18446744073709551617", 0},
		{"36893488147419103233", 0}, {"184467440737095516160", 0}, {"-340282366920938463463374607431768211456", 0},
		{"4611686018427387904", 1}, {"-4611686018427387904.5", 1}, {"-4611686018427387905", 1}, {"9223372036854775807", 1}, {"9223372036854775808", 1},
		{"2", 62}, {"-3", 62}, {"3", 62}, {"4", 62}, {"5", 62}, {"-4", 62}, {"8", 62}, {"2.5", 62}, {"-2.5", 62}, {"4.25", 62},
		{"-2.00000000000000000021684043449710088680149056017398834228515625", 62},
		{"4", 61}, {"-5", 61}, {"8", 61}, {"9", 61},
		{strings.Repeat("9", 1000), 0}, {"-" + strings.Repeat("1", 100), 0}, {"1" + strings.Repeat("0", 64), 0}, {"1" + strings.Repeat("0", 1<<16), 5},
	} {
		checkParse(t, c.s, c.q, 0, false)
	}
}

func TestParseOfLongTextsEnds(t *testing.T) {
	long := strings.Repeat("0", 1<<22)
	for _, s := range []string{long, "-" + long, "0." + long, "0." + long + "1", "1." + long + "5", long + "1", "0.5" + long, long + ".5", strings.Repeat("-", 1<<20), strings.Repeat(".", 1<<20), strings.Repeat("日", 1<<20)} {
		for _, q := range []int{0, 1, 62} {
			checkParse(t, s, q, 0, false)
		}
		checkNumber(t, s, 0, false)
		checkNatural(t, s, top, 0, false)
	}
}

func TestParseOfEveryShortText(t *testing.T) {
	everyText(6, "-.0257", func(s string) {
		for _, q := range []int{0, 1, 2, 3, 4, 61, 62} {
			want, ok := parse(s, q)
			checkParse(t, s, q, want, ok)
		}
	})
}

func TestParseOfChangedTexts(t *testing.T) {
	for i, x := range samples() {
		q := i % 63
		s := text(x, q)
		for p := 0; p <= len(s); p++ {
			for _, c := range []string{"", "0", "1", "5", ".", "-", "+", " ", "00"} {
				changed := []string{s[:p] + c + s[p:]}
				if p < len(s) {
					changed = append(changed, s[:p]+c+s[p+1:])
				}
				for _, s := range changed {
					want, ok := parse(s, q)
					checkParse(t, s, q, want, ok)
				}
			}
		}
	}
}

// P2.2

func TestWholeAndPartOfKnownNumbers(t *testing.T) {
	for _, c := range []struct {
		x     int64
		q     int
		whole int64
		part  uint64
	}{
		{0, 0, 0, 0}, {0, 62, 0, 0},
		{7, 0, 7, 0}, {-7, 0, -7, 0},
		{3, 1, 1, 1}, {-3, 1, -2, 1}, {-1, 1, -1, 1}, {-2, 1, -1, 0},
		{-1, 2, -1, 3}, {-4, 2, -1, 0}, {-5, 2, -2, 3}, {5, 2, 1, 1},
		{1, 62, 0, 1}, {-1, 62, -1, 1<<62 - 1}, {1 << 62, 62, 1, 0}, {-1 << 62, 62, -1, 0},
		{top, 62, 1, 1<<62 - 1}, {low, 62, -2, 0}, {low + 1, 62, -2, 1},
		{top, 0, top, 0}, {low, 0, low, 0}, {top, 1, top >> 1, 1}, {low, 1, low / 2, 0},
	} {
		if got := Whole(c.x, c.q); got != c.whole {
			t.Errorf("Whole(%d, %d) = %d, want %d", c.x, c.q, got, c.whole)
		}
		if got := Part(c.x, c.q); got != c.part {
			t.Errorf("Part(%d, %d) = %d, want %d", c.x, c.q, got, c.part)
		}
	}
}

func TestWholeAndPartMakeTheNumber(t *testing.T) {
	for _, x := range samples() {
		for q := range 63 {
			d := new(big.Int).Exp(big.NewInt(2), big.NewInt(int64(q)), nil)
			whole, part := new(big.Int).DivMod(big.NewInt(x), d, new(big.Int))
			if got := Whole(x, q); got != whole.Int64() {
				t.Errorf("Whole(%d, %d) = %d, want %v", x, q, got, whole)
			}
			if got := Part(x, q); got != part.Uint64() {
				t.Errorf("Part(%d, %d) = %d, want %v", x, q, got, part)
			}
		}
	}
}

func TestWholeAndPartOutsideAreZero(t *testing.T) {
	for _, x := range samples() {
		for _, q := range outside {
			if got := Whole(x, q); got != 0 {
				t.Errorf("Whole(%d, %d) = %d, want 0", x, q, got)
			}
			if got := Part(x, q); got != 0 {
				t.Errorf("Part(%d, %d) = %d, want 0", x, q, got)
			}
		}
	}
}

// P2.3

func TestNumberOfKnownForms(t *testing.T) {
	for _, c := range []struct {
		s    string
		want int64
	}{
		{"0", 0}, {"1", 1}, {"-1", -1}, {"9", 9}, {"10", 10}, {"-10", -10}, {"100200", 100200},
		{"9223372036854775807", top}, {"-9223372036854775808", low}, {"-9223372036854775807", -top}, {"1000000000000000000", 1e18},
	} {
		checkNumber(t, c.s, c.want, true)
	}
}

func TestNumberInvertsDecimalForms(t *testing.T) {
	for _, x := range samples() {
		checkNumber(t, big.NewInt(x).String(), x, true)
	}
}

func TestNumberRefusesOthers(t *testing.T) {
	for _, s := range []string{
		"", "-", "--1", "-0", "00", "01", "-01", "+1", "+0", " 1", "1 ", "1.", "1.0", "0.5", ".5", "1.5", "-1.5", ".",
		"9223372036854775808", "-9223372036854775809", "9223372036854775817", "18446744073709551616", "18446744073709551617", "99999999999999999999",
		"1e3", "0x10", "1_000", "1,000", "a", "1a", "a1", "１", "٣", "−1", "\xff", "1\xff", "1\x00", "/", ":", "\n", "1\n",
	} {
		checkNumber(t, s, 0, false)
		for _, most := range []int{0, 1, 100, top} {
			checkNatural(t, s, most, 0, false)
		}
	}
	everyText(6, "-.0193", func(s string) {
		want, ok := parse(s, 0)
		checkNumber(t, s, want, ok)
	})
}

func TestNaturalIsFromZeroToItsLimit(t *testing.T) {
	for _, most := range []int{0, 1, 2, 9, 10, 99, 1 << 20, 1<<32 - 1, 1 << 32, top - 1, top} {
		for _, n := range []int{0, 1, most / 2, most - 1, most} {
			if 0 <= n && n <= most {
				checkNatural(t, big.NewInt(int64(n)).String(), most, n, true)
			}
		}
		above := new(big.Int).Add(big.NewInt(int64(most)), big.NewInt(1))
		checkNatural(t, above.String(), most, 0, false)
		checkNatural(t, above.String()+"0", most, 0, false)
		checkNatural(t, "-1", most, 0, false)
		checkNatural(t, "-9223372036854775808", most, 0, false)
		checkNatural(t, "-0", most, 0, false)
		checkNatural(t, "00", most, 0, false)
		checkNatural(t, "", most, 0, false)
	}
}

func TestNaturalBelowZeroHasNone(t *testing.T) {
	for _, most := range []int{-1, -2, -10, low, low + 1} {
		for _, s := range []string{"0", "-1", "-2", "-10", "1", "9223372036854775807", "-9223372036854775808", "", "x"} {
			checkNatural(t, s, most, 0, false)
		}
	}
}

// P2.4

func TestParseInvertsText(t *testing.T) {
	for _, x := range samples() {
		for q := range 63 {
			checkParse(t, Text(x, q), q, x, true)
		}
	}
}

func TestParseInvertsTextOfEverySmallNumber(t *testing.T) {
	for _, q := range []int{0, 1, 7, 31, 32, 60, 61, 62} {
		for x := int64(-5000); x <= 5000; x++ {
			for _, y := range []int64{x, low + 5000 + x, top - 5000 + x, x + 1<<q, x - 1<<q} {
				checkParse(t, Text(y, q), q, y, true)
			}
		}
	}
}

func TestDifferentNumbersHaveDifferentTexts(t *testing.T) {
	l := samples()
	for x := int64(-300); x <= 300; x++ {
		l = append(l, x)
	}
	for q := range 63 {
		seen := map[string]int64{}
		for _, x := range l {
			s := Text(x, q)
			if y, ok := seen[s]; ok && y != x {
				t.Errorf("Text(%d, %d) = Text(%d, %d) = %q", x, q, y, q, s)
			}
			seen[s] = x
		}
	}
}

// P1

func TestNoArgumentsPanic(t *testing.T) {
	texts := []string{"", "-", ".", "0", "-0", "1.5", "-9223372036854775808", "9223372036854775808", "0.9999999999999999999", "9999999999999999999.9999999999999999999", "日本", "\xff\xfe", "0.123456789012345678日", strings.Repeat("9", 5000)}
	qs := append([]int{0, 1, 31, 61, 62}, outside...)
	for _, q := range qs {
		for _, x := range samples() {
			if Text(x, q) != Text(x, q) || Whole(x, q) != Whole(x, q) || Part(x, q) != Part(x, q) {
				t.Errorf("a second call with %d, %d has another result", x, q)
			}
		}
		for _, s := range texts {
			x, ok := Parse(s, q)
			n, fine := Natural(s, q)
			if y, again := Parse(s, q); y != x || again != ok || !ok && x != 0 || !fine && n != 0 {
				t.Errorf("Parse(%q, %d) = %d, %t and %d, %t", s, q, x, ok, y, again)
			}
		}
	}
}
