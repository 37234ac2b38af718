package show_test

import (
	"fmt"
	"math"
	"math/big"
	"math/rand"
	"regexp"
	"slices"
	"strconv"
	"strings"
	"testing"

	"quadrille/api"
	"quadrille/number"
	"quadrille/show"
)

const (
	greatest = math.MaxFloat64
	least    = 0x1p-1074
)

var (
	inf    = math.Inf(1)
	minus0 = math.Copysign(0, -1)
)

// nans are float64s that are no number of mathematics.
func nans() []float64 {
	var l []float64
	for _, b := range []uint64{1, 2, 1<<51 - 1, 1 << 51, 1<<51 + 1, 1 << 29, 1<<52 - 1} {
		l = append(l, math.Float64frombits(0x7FF<<52|b), math.Float64frombits(0xFFF<<52|b))
	}
	return l
}

// numbers are finite ones: the edges, halves, what carries, their neighbours, and some others; both signs.
func numbers(others int) []float64 {
	r := rand.New(rand.NewSource(61))
	var l []float64
	add := func(x float64) {
		if x-x == 0 {
			l = append(l, x, -x)
		}
	}
	for _, x := range []float64{0, least, 3 * least, 0x1p-1022, 0.1, 0.3, 0.125, 0.375, 0.5, 1, 1.5, 2.5, 9.5, 9.75, 10, 99.5, 100, 999, 999.5, 999.9375, 1000, 9999.5, 999999, 999999.5, 1e6, 0x1p53, 0x1p63, 0x1p64, 1e15, 1e19, 1e20, 1e21, 1e22, 1e-5, 1e-6, 1e-7, 1e-8, 9.5e20, 9.5e-8, 9.995, 12.345, 1e32, 1e64, 1e99, 1e100, 1e-99, 1e-100, 1e300, greatest / 100, greatest} {
		add(x)
		add(math.Nextafter(x, inf))
		add(math.Nextafter(x, -inf))
	}
	for range others {
		add(math.Float64frombits(r.Uint64()))
		add(math.Float64frombits(r.Uint64() >> uint(12+r.Intn(52)))) // subnormal
		add(float64(r.Intn(1_000_000)) / 1000)
		add(float64(r.Intn(1<<20)) / 1024) // halves of places and of figures
		add(math.Ldexp(r.Float64(), r.Intn(200)-60))
	}
	return l
}

// A row of the document's table of formats.
type row struct {
	kind        int
	letter      string
	least, most int
	group       bool
}

func rows() []row {
	return []row{{1, "g", 0, 30, false}, {2, "f", 0, 30, true}, {3, "s", 0, 30, false}, {4, "p", 0, 30, true}, {5, "q", 1, 3, false}}
}

// formats are all formats of those widths that may be.
func formats(widths ...int) []api.Format {
	var l []api.Format
	for _, r := range rows() {
		for places := r.least; places <= r.most; places++ {
			for _, width := range widths {
				l = append(l, api.Format{Kind: r.kind, Places: places, Width: width})
				if r.group {
					l = append(l, api.Format{Kind: r.kind, Places: places, Group: true, Width: width})
				}
			}
		}
	}
	return l
}

// format is the format of a code, taken apart without the program.
func format(t *testing.T, code string) api.Format {
	t.Helper()
	m := regexp.MustCompile(`^([gfspq])([0-9]+)(,?)(?::([0-9]+))?$`).FindStringSubmatch(code)
	if m == nil {
		t.Fatalf("no code: %q", code)
	}
	places, _ := strconv.Atoi(m[2])
	width, _ := strconv.Atoi(m[4])
	return api.Format{Kind: 1 + strings.Index("gfspq", m[1]), Places: places, Group: m[3] != "", Width: width}
}

// shows asks for a text of a format by its code.
func shows(t *testing.T, promise string, x float64, code, want string) {
	t.Helper()
	if got, err := show.Show(x, format(t, code)); got != want || err != api.OK {
		t.Errorf("%s: %v by %s: %q, %d; want %q", promise, x, code, got, err, want)
	}
}

// shown is a text that there must be.
func shown(t *testing.T, x float64, f api.Format) string {
	t.Helper()
	text, err := show.Show(x, f)
	if err != api.OK || text == "" {
		t.Fatalf("6.1: %v by %+v: %q, %d", x, f, text, err)
	}
	return text
}

// What the tests know of what is shown: the document's words, by exact fractions.

func rat(x float64) *big.Rat { return new(big.Rat).SetFloat64(math.Abs(x)) }

// tens is 10^k.
func tens(k int) *big.Rat {
	p := new(big.Rat).SetInt(new(big.Int).Exp(big.NewInt(10), big.NewInt(int64(max(k, -k))), nil))
	if k < 0 {
		p.Inv(p)
	}
	return p
}

// tenth is the exponent of ten of a finite number's first figure: 40 figures are too many to carry.
func tenth(x float64) int {
	text := strconv.FormatFloat(x, 'e', 40, 64)
	k, _ := strconv.Atoi(text[strings.IndexByte(text, 'e')+1:])
	return k
}

// figures are the n figures that a magnitude is rounded to, halves by Away or by Even, and the exponent of ten of the first one.
func figures(x float64, n int, even bool) (string, int) {
	if x == 0 {
		return strings.Repeat("0", n), 0
	}
	v, k := rat(x), tenth(x)
	scaled := new(big.Rat).Mul(v, tens(n-1-k))
	digits := scaled.FloatString(0) // halves go away from nought
	m, _ := new(big.Int).SetString(digits, 10)
	over := new(big.Rat).Sub(new(big.Rat).SetInt(m), scaled)
	if even && m.Bit(0) == 1 && over.Cmp(big.NewRat(1, 2)) == 0 {
		digits = m.Sub(m, big.NewInt(1)).String()
	}
	if len(digits) > n {
		return digits[:n], k + 1
	}
	return digits, k
}

// withCommas puts one between any digit and three, six, .. digits behind it.
func withCommas(whole string) string {
	text := ""
	for i, c := range whole {
		if i > 0 && (len(whole)-i)%3 == 0 {
			text += ","
		}
		text += string(c)
	}
	return text
}

func wantPlaced(v *big.Rat, f api.Format) string {
	ahead, behind, ok := strings.Cut(v.FloatString(f.Places), ".") // halves go away from nought
	if f.Group {
		ahead = withCommas(ahead)
	}
	if !ok {
		return ahead
	}
	return ahead + "." + behind
}

func wantGeneral(x float64, n int) string {
	digits, k := figures(x, n, true)
	digits = strings.TrimRight(digits, "0")
	switch {
	case digits == "":
		return "0"
	case k < -7 || k > 20:
		return strings.TrimSuffix(digits[:1]+"."+digits[1:], ".") + "e" + strconv.Itoa(k)
	case k < 0:
		return "0." + strings.Repeat("0", -k-1) + digits
	case len(digits) <= k+1:
		return digits + strings.Repeat("0", k+1-len(digits))
	}
	return digits[:k+1] + "." + digits[k+1:]
}

func wantScientific(x float64, places int) string {
	digits, k := figures(x, places+1, false)
	return strings.TrimSuffix(digits[:1]+"."+digits[1:], ".") + fmt.Sprintf("e%+03d", k)
}

// wantFraction tries every q.
func wantFraction(v *big.Rat, n int) string {
	most := int64(math.Pow10(n)) - 1
	var best, gap *big.Rat
	for q := int64(1); q <= most; q++ {
		scaled := new(big.Rat).Mul(v, new(big.Rat).SetInt64(q))
		p, _ := new(big.Int).SetString(scaled.FloatString(0), 10)
		at := new(big.Rat).SetFrac(p, big.NewInt(q)) // without a common divisor
		d := new(big.Rat).Sub(at, v)
		d.Abs(d)
		if gap == nil || d.Cmp(gap) < 0 {
			best, gap = at, d
		}
	}
	if best.IsInt() {
		return best.Num().String()
	}
	w, rest := new(big.Int).QuoRem(best.Num(), best.Denom(), new(big.Int))
	text := rest.String() + "/" + best.Denom().String()
	if w.Sign() != 0 {
		text = w.String() + " " + text
	}
	return text
}

// full is what is shown of a finite number where there is room.
func full(x float64, f api.Format) string {
	text := ""
	switch v := rat(x); f.Kind {
	case api.General:
		text = number.Short(math.Abs(x))
		if f.Places > 0 {
			text = wantGeneral(x, f.Places)
		}
	case api.Fixed:
		text = wantPlaced(v, f)
	case api.Scientific:
		text = wantScientific(x, f.Places)
	case api.Percent:
		text = wantPlaced(v.Mul(v, big.NewRat(100, 1)), f) + "%"
	case api.Fraction:
		text = wantFraction(v, f.Places)
	}
	if math.Signbit(x) {
		return "-" + text
	}
	return text
}

// inRoom is a text as the room has it.
func inRoom(text string, width int) string {
	room := width
	if room == 0 {
		room = 64
	}
	if len(text) > room {
		return strings.Repeat("#", room)
	}
	return fmt.Sprintf("%*s", width, text)
}

func TestExamples(t *testing.T) {
	for _, c := range []struct {
		x          float64
		code, want string
	}{
		{1234.5, "f2", "1234.50"}, {1234.5, "f0", "1235"}, {1234.5, "f2,", "1,234.50"}, {1234.5, "f1:10", "    1234.5"}, {1234.5, "f1:5", "#####"},
		{0.125, "f2", "0.13"}, {-0.001, "f2", "-0.00"}, {minus0, "f0", "-0"}, {2.5, "f0", "3"}, {1e300, "f0", strings.Repeat("#", 64)},
		{0.1, "f20", "0.10000000000000000555"}, {0.1, "g0", "0.1"}, {0.1, "g17", "0.10000000000000001"}, {0.1, "g3", "0.1"}, {0.1, "s0", "1e-01"},
		{123456, "g3", "123000"}, {123456, "g6", "123456"}, {123456, "s2", "1.23e+05"}, {1e21, "g3", "1e21"}, {1e-8, "g3", "1e-8"}, {1e-7, "g1", "0.0000001"},
		{0, "s2", "0.00e+00"}, {9.995, "s2", "9.99e+00"}, {1e100, "s0", "1e+100"}, {999999, "f0,", "999,999"}, {0.5, "f0,", "1"},
		{0.256, "p0", "26%"}, {0.256, "p1", "25.6%"}, {12.345, "p0,", "1,235%"},
		{0.3, "q1", "2/7"}, {0.5, "q1", "1/2"}, {2.75, "q1", "2 3/4"}, {3.14159265, "q3", "3 16/113"}, {0.0001, "q1", "0"}, {-1.999, "q1", "-2"},
		{math.NaN(), "f2:6", "   NaN"}, {-inf, "q1", "-Inf"}, {inf, "p0:2", "##"},
	} {
		shows(t, "6.1", c.x, c.code, c.want)
	}
}

// 6.1: which formats may be; ErrArg, and nothing beside it, of all others, whatever the number is.
func TestMayBe(t *testing.T) {
	allowed := map[api.Format]bool{}
	for _, f := range formats(0, 1, 2, 63, 64) {
		allowed[f] = true
	}
	for _, kind := range []int{math.MinInt, -1, 0, 1, 2, 3, 4, 5, 6, 7, math.MaxInt} {
		for _, places := range []int{math.MinInt, -1, 0, 1, 2, 3, 4, 29, 30, 31, 256, math.MaxInt} {
			for _, width := range []int{math.MinInt, -1, 0, 1, 2, 63, 64, 65, 1 << 32, math.MaxInt} {
				for _, group := range []bool{false, true} {
					f := api.Format{Kind: kind, Places: places, Group: group, Width: width}
					if show.Valid(f) != allowed[f] {
						t.Errorf("6.1: Valid(%+v): %v", f, !allowed[f])
					}
					refused(t, f, !allowed[f])
				}
			}
		}
	}
	for f := range allowed {
		if !show.Valid(f) {
			t.Errorf("6.1: Valid(%+v): false", f)
		}
	}
}

// refused asks whether Show and Code refuse a format.
func refused(t *testing.T, f api.Format, wrong bool) {
	t.Helper()
	for _, x := range []float64{0, 1.5, -1e300, inf, math.NaN()} {
		text, err := show.Show(x, f)
		if wrong && (err != api.ErrArg || text != "") || !wrong && (err != api.OK || text == "") {
			t.Errorf("6.1: %v by %+v: %q, %d", x, f, text, err)
		}
	}
	code, err := show.Code(f)
	if wrong && (err != api.ErrArg || code != "") || !wrong && (err != api.OK || code == "") {
		t.Errorf("6.3: Code(%+v): %q, %d", f, code, err)
	}
}

// 6.1: every Kind with all its Places, in the greatest room, over many numbers.
func TestShown(t *testing.T) {
	for _, x := range numbers(40) {
		for _, f := range formats(0) {
			if f.Kind == api.Fraction && f.Places > 1 {
				continue // TestFractions
			}
			if got, want := shown(t, x, f), inRoom(full(x, f), 0); got != want {
				t.Errorf("6.1: %v by %+v: %q; want %q", x, f, got, want)
			}
		}
	}
}

// 6.1: what each Kind shows of the least and the greatest numbers.
func TestEnds(t *testing.T) {
	none := strings.Repeat("#", 64)
	for _, c := range []struct {
		x          float64
		code, want string
	}{
		{greatest, "g0", "1.7976931348623157e308"}, {greatest, "g1", "2e308"}, {greatest, "g17", "1.7976931348623157e308"}, {greatest, "g30", "1.79769313486231570814527423732e308"},
		{greatest, "s0", "2e+308"}, {greatest, "s30", "1.797693134862315708145274237317e+308"}, {greatest, "f0", none}, {greatest, "p0", none}, {greatest, "p30,", none}, {greatest, "q1", none}, {-greatest, "q3:64", none},
		{least, "g0", "5e-324"}, {least, "g1", "5e-324"}, {least, "g30", "4.94065645841246544176568792868e-324"}, {least, "s0", "5e-324"}, {least, "s1", "4.9e-324"}, {-least, "s30", "-4.940656458412465441765687928682e-324"},
		{least, "f0", "0"}, {least, "f30", "0." + strings.Repeat("0", 30)}, {-least, "f30", "-0." + strings.Repeat("0", 30)}, {-least, "p0", "-0%"}, {-least, "q1", "-0"}, {-least, "q3", "-0"},
		{0x1p-1022, "g3", "2.23e-308"}, {0x1p-1022 - least, "g17", "2.2250738585072009e-308"}, {0x1p-1022, "s2", "2.23e-308"}, {0x1p-1022, "p30", "0." + strings.Repeat("0", 30) + "%"},
	} {
		shows(t, "6.1", c.x, c.code, c.want)
	}
}

// 6.1: halves just met, by Away and by Even, and the numbers just beside them.
func TestHalves(t *testing.T) {
	beside := func(x float64) (float64, float64) { return math.Nextafter(x, 0), math.Nextafter(x, 2*x) }
	for _, c := range []struct {
		x                  float64
		code               string
		below, just, above string
	}{
		{0.5, "f0", "0", "1", "1"}, {1.5, "f0", "1", "2", "2"}, {2.5, "f0", "2", "3", "3"}, {-2.5, "f0", "-2", "-3", "-3"}, {0.125, "f2", "0.12", "0.13", "0.13"}, {0.375, "f2", "0.37", "0.38", "0.38"}, {999.5, "f0,", "999", "1,000", "1,000"},
		{2.5, "s0", "2e+00", "3e+00", "3e+00"}, {12.5, "s1", "1.2e+01", "1.3e+01", "1.3e+01"}, {9.5, "s0", "9e+00", "1e+01", "1e+01"}, {-0.125, "s1", "-1.2e-01", "-1.3e-01", "-1.3e-01"},
		{2.5, "g1", "2", "2", "3"}, {3.5, "g1", "3", "4", "4"}, {12.5, "g2", "12", "12", "13"}, {-13.5, "g2", "-13", "-14", "-14"}, {0.125, "g2", "0.12", "0.12", "0.13"}, {0.375, "g2", "0.37", "0.38", "0.38"}, {9.5, "g1", "9", "10", "10"},
		{0.125, "p0", "12%", "13%", "13%"}, {0.375, "p0", "37%", "38%", "38%"}, {-0.03125, "p2", "-3.12%", "-3.13%", "-3.13%"},
	} {
		below, above := beside(c.x)
		shows(t, "6.1", below, c.code, c.below)
		shows(t, "6.1", c.x, c.code, c.just)
		shows(t, "6.1", above, c.code, c.above)
	}
}

// 6.1: figures that carry into one more, and the ends of what General tells without an exponent.
func TestCarries(t *testing.T) {
	for _, c := range []struct {
		x          float64
		code, want string
	}{
		{9.75, "g1", "10"}, {99.96, "g3", "100"}, {0.0999, "g1", "0.1"}, {999.9, "g3", "1000"}, {9.96e20, "g2", "1e21"}, {9.96e20, "g3", "996000000000000000000"}, {999999999999999900000, "g1", "1e21"}, {999999999999999900000, "g16", "999999999999999900000"},
		{9.96e-8, "g2", "0.0000001"}, {9.96e-8, "g3", "9.96e-8"}, {9.96e19, "g2", "100000000000000000000"}, {1.5e-7, "g2", "0.00000015"}, {1.25e21, "g3", "1.25e21"}, {1.25e21, "g1", "1e21"}, {1e22, "g30", "1e22"}, {-1e-8, "g30", "-1.00000000000000002092256083013e-8"},
		{9.96, "s1", "1.0e+01"}, {99.96, "s2", "1.00e+02"}, {0.996, "s1", "1.0e+00"}, {0.00996, "s1", "1.0e-02"}, {9.96e9, "s1", "1.0e+10"}, {9.96e-10, "s1", "1.0e-09"}, {9.96e99, "s1", "1.0e+100"}, {9.96e-100, "s1", "1.0e-99"},
		{0.996, "f2", "1.00"}, {9.996, "f2", "10.00"}, {99.95, "f1", "100.0"}, {0.0996, "p1", "10.0%"}, {0.9996, "p1", "100.0%"},
		{120, "g30", "120"}, {100, "g1", "100"}, {1.50, "g3", "1.5"}, {0, "g1", "0"}, {minus0, "g30", "-0"},
	} {
		shows(t, "6.1", c.x, c.code, c.want)
	}
}

// 6.1: an exponent of Scientific has two digits at least, of noughts too.
func TestExponents(t *testing.T) {
	for k, want := range map[int]string{0: "1e+00", 1: "1e+01", 9: "1e+09", 10: "1e+10", 99: "1e+99", 100: "1e+100", 308: "1e+308", -1: "1e-01", -9: "1e-09", -10: "1e-10", -99: "1e-99", -100: "1e-100", -323: "1e-323"} {
		x, _ := strconv.ParseFloat("1e"+strconv.Itoa(k), 64)
		shows(t, "6.1", x, "s0", want)
	}
	for places := 0; places <= 30; places++ {
		noughts := strings.TrimSuffix("0."+strings.Repeat("0", places), ".") + "e+00"
		shows(t, "6.1", 0, "s"+strconv.Itoa(places), noughts)
		shows(t, "6.1", minus0, "s"+strconv.Itoa(places), "-"+noughts)
	}
}

// 6.1: commas, with as many digits ahead of the point as may be, and where rounding makes one more.
func TestGroups(t *testing.T) {
	for _, c := range []struct {
		x          float64
		code, want string
	}{
		{0, "f0,", "0"}, {1, "f0,", "1"}, {12, "f0,", "12"}, {123, "f0,", "123"}, {-123, "f0,", "-123"}, {1234, "f0,", "1,234"}, {12345, "f0,", "12,345"}, {123456, "f0,", "123,456"}, {-123456, "f3,", "-123,456.000"}, {1234567, "f0,", "1,234,567"}, {123456789, "f0,", "123,456,789"}, {1234567890, "f0,", "1,234,567,890"},
		{999.5, "f0,", "1,000"}, {999.4, "f0,", "999"}, {999999.5, "f0,", "1,000,000"}, {-999999.96, "f1,", "-1,000,000.0"}, {1234.56789, "f5,", "1,234.56789"}, {0.123456, "f6,", "0.123456"}, {999.9999, "f4,", "999.9999"}, {999.99999, "f4,", "1,000.0000"},
		{1e20, "f0,", "100,000,000,000,000,000,000"}, {1e20, "f0", "100000000000000000000"}, {1e47, "f0,", withCommas(rat(1e47).FloatString(0))},
		{9.99, "p0,", "999%"}, {9.996, "p0,", "1,000%"}, {-12345.678, "p1,", "-1,234,567.8%"}, {1234, "f0", "1234"}, {12.34, "p0", "1234%"},
	} {
		shows(t, "6.1", c.x, c.code, c.want)
	}
}

// 6.1: the room, of every width, of texts that are just as long, longer and shorter.
func TestRoom(t *testing.T) {
	for width := 1; width <= 64; width++ {
		for size := 1; size <= 66; size++ {
			places := min(30, max(0, size-2))
			whole := size
			if places > 0 {
				whole = size - places - 1
			}
			x, _ := new(big.Float).SetInt(new(big.Int).Exp(big.NewInt(10), big.NewInt(int64(whole-1)), nil)).Float64()
			f := api.Format{Kind: api.Fixed, Places: places, Width: width}
			text := rat(x).FloatString(places)
			if len(text) != size {
				continue // a power of ten that is no number
			}
			if got := shown(t, x, f); got != inRoom(text, width) {
				t.Errorf("6.1: %v by %+v: %q", x, f, got)
			}
		}
	}
	most := rat(1e32).FloatString(30)
	if len(most) != 64 {
		t.Fatal(len(most))
	}
	for _, c := range []struct {
		x          float64
		code, want string
	}{
		{1e32, "f30", most}, {1e32, "f30:64", most}, {1e32, "f30:63", strings.Repeat("#", 63)}, {-1e32, "f30", strings.Repeat("#", 64)}, {-1e32, "f30:64", strings.Repeat("#", 64)}, {1e30, "p30", strings.Repeat("#", 64)}, {-1e31, "f30", "-" + rat(1e31).FloatString(30)},
		{1, "f0:1", "1"}, {-1, "f0:1", "#"}, {12, "f0:1", "#"}, {1, "f0:2", " 1"}, {-1, "f0:2", "-1"}, {1, "f0:64", strings.Repeat(" ", 63) + "1"}, {1, "f0", "1"}, {1234, "f0,:5", "1,234"}, {1234, "f0,:4", "####"}, {1234, "f0,:6", " 1,234"},
		{0.5, "p0:3", "50%"}, {0.5, "p0:2", "##"}, {0.5, "p0:4", " 50%"}, {2.75, "q1:5", "2 3/4"}, {2.75, "q1:4", "####"}, {2.75, "q1:6", " 2 3/4"}, {1, "s0:5", "1e+00"}, {1, "s0:4", "####"}, {0.1, "g0:3", "0.1"}, {0.1, "g0:2", "##"}, {0.1, "g0:4", " 0.1"}, {1e22, "g5:4", "1e22"}, {1e22, "g5:3", "###"},
	} {
		shows(t, "6.1", c.x, c.code, c.want)
	}
}

// 6.1: every NaN, whatever its bits, and both infinities, by every format.
func TestNoNumbers(t *testing.T) {
	for _, f := range formats(0, 1, 2, 3, 4, 5, 64) {
		for _, x := range nans() {
			if got := shown(t, x, f); got != inRoom("NaN", f.Width) {
				t.Errorf("6.1: %x by %+v: %q", math.Float64bits(x), f, got)
			}
		}
		if got := shown(t, inf, f); got != inRoom("Inf", f.Width) {
			t.Errorf("6.1: +infinity by %+v: %q", f, got)
		}
		if got := shown(t, -inf, f); got != inRoom("-Inf", f.Width) {
			t.Errorf("6.1: -infinity by %+v: %q", f, got)
		}
	}
}

// 6.1: -0, and what is rounded to noughts alone, keep their sign.
func TestSigns(t *testing.T) {
	for _, c := range []struct {
		x          float64
		code, want string
	}{
		{minus0, "g0", "-0"}, {minus0, "g1", "-0"}, {minus0, "f0", "-0"}, {minus0, "f2,", "-0.00"}, {minus0, "s0", "-0e+00"}, {minus0, "p1", "-0.0%"}, {minus0, "q1", "-0"}, {minus0, "q3:3", " -0"}, {minus0, "f0:1", "#"},
		{0, "g0", "0"}, {0, "g1", "0"}, {0, "f0", "0"}, {0, "f2,", "0.00"}, {0, "s0", "0e+00"}, {0, "p1", "0.0%"}, {0, "q1", "0"},
		{-0.4, "f0", "-0"}, {-0.004, "f2", "-0.00"}, {-0.004, "p0", "-0%"}, {-0.01, "q1", "-0"}, {-1e-300, "f30", "-0." + strings.Repeat("0", 30)},
	} {
		shows(t, "6.1", c.x, c.code, c.want)
	}
}

// 6.1: fractions: the lesser q of two as near, q 1, a whole part 0, the greatest q; and every q tried.
func TestFractions(t *testing.T) {
	for _, c := range []struct {
		x          float64
		code, want string
	}{
		{0.5, "q2", "1/2"}, {0.5, "q3", "1/2"}, {0.25, "q1", "1/4"}, {0.75, "q3", "3/4"}, {6.5, "q3", "6 1/2"}, {-0.125, "q1", "-1/8"}, {1.0 / 3, "q1", "1/3"}, {2.0 / 3, "q2", "2/3"},
		{1.0 / 9, "q1", "1/9"}, {8.0 / 9, "q1", "8/9"}, {1.0 / 10, "q1", "1/9"}, {1.0 / 99, "q2", "1/99"}, {98.0 / 99, "q2", "98/99"}, {1.0 / 100, "q2", "1/99"}, {1.0 / 999, "q3", "1/999"}, {998.0 / 999, "q3", "998/999"}, {1.0 / 1000, "q3", "1/999"}, {7.0 / 998, "q3", "7/998"},
		{0.055, "q1", "0"}, {0.056, "q1", "1/9"}, {0.944, "q1", "8/9"}, {0.945, "q1", "1"}, {1.0/18 + 0x1p-50, "q1", "1/9"}, {1.0/18 - 0x1p-50, "q1", "0"}, {0.005, "q2", "0"}, {0.0051, "q2", "1/99"}, {0.0005, "q3", "0"}, {0.000501, "q3", "1/999"}, {0x1p-11, "q3", "0"}, {0x1.fffffffffffffp-12, "q3", "0"}, {0x1p-10, "q3", "1/999"},
		{1.0 / 1998, "q3", "0"}, {0.9995, "q3", "1"}, {0.9996, "q3", "1"}, {41.9999, "q3", "42"}, {-9.96, "q1", "-10"},
		{3, "q1", "3"}, {1e15, "q3", "1000000000000000"}, {0x1p53 - 1, "q3", "9007199254740991"}, {0x1p52 + 0.5, "q1", "4503599627370496"}, {0x1p51 + 0.5, "q1", "2251799813685248 1/2"}, {0x1p53, "q2", "9007199254740992"}, {0x1p64, "q1", "18446744073709551616"}, {1e22, "q1", "10000000000000000000000"}, {0x1p200, "q1:61", "1606938044258990275541962092341162602522202993782792835301376"}, {0x1p212, "q1", "6582018229284824168619876730229402019930943462534319453394436096"}, {0x1p213, "q1", strings.Repeat("#", 64)},
		{math.Pi, "q1", "3 1/7"}, {math.Pi, "q2", "3 14/99"}, {math.Pi, "q3", "3 16/113"}, {math.E, "q1", "2 5/7"}, {math.Sqrt2, "q2", "1 41/99"},
	} {
		shows(t, "6.1", c.x, c.code, c.want)
	}
	r := rand.New(rand.NewSource(62))
	for range 150 {
		q := 1 + r.Intn(1100)
		x := float64(r.Intn(3*q)) / float64(q)
		for _, y := range []float64{x, math.Nextafter(x, 9), r.Float64(), math.Ldexp(r.Float64(), -r.Intn(14)), 1 - math.Ldexp(r.Float64(), -r.Intn(14)), 1000 * r.Float64()} {
			for n := 1; n <= 3; n++ {
				f := api.Format{Kind: api.Fraction, Places: n}
				if got, want := shown(t, y, f), full(y, f); got != want {
					t.Errorf("6.1: %v by %+v: %q; want %q", y, f, got, want)
				}
			}
		}
	}
}

// 6.1: just beside the middle of two neighbouring fractions the nearer one is shown.
func TestMiddles(t *testing.T) {
	for n, most := range []int64{1: 9, 2: 99, 3: 999} {
		for _, w := range []int64{0, 3} {
			for _, pair := range [][2]int64{{0, 1}, {1, most}, {1, most - 1}, {most - 2, most - 1}, {most - 1, most}, {1, 1}} {
				if most == 0 {
					continue
				}
				middle(t, n, w, pair[0], pair[1], most)
			}
		}
	}
}

// middle asks around the middle of w + p/q and the next greater quotient.
func middle(t *testing.T, n int, w, p, q, most int64) {
	t.Helper()
	at, next := big.NewRat(w*q+p, q), (*big.Rat)(nil)
	for d := int64(1); d <= most; d++ {
		up := new(big.Rat).Mul(at, big.NewRat(d, 1))
		m := new(big.Int).Div(up.Num(), up.Denom())
		c := new(big.Rat).SetFrac(m.Add(m, big.NewInt(1)), big.NewInt(d))
		if next == nil || c.Cmp(next) < 0 {
			next = c
		}
	}
	between := new(big.Rat).Add(at, next)
	x, _ := between.Quo(between, big.NewRat(2, 1)).Float64()
	f := api.Format{Kind: api.Fraction, Places: n}
	for _, y := range []float64{x, math.Nextafter(x, 0), math.Nextafter(x, 9)} {
		if got, want := shown(t, y, f), full(y, f); got != want {
			t.Errorf("6.1: %v by %+v: %q; want %q", y, f, got, want)
		}
	}
}

// 6.2: Plain is Short.
func TestPlain(t *testing.T) {
	for x, want := range map[float64]string{0.1: "0.1", 1e21: "1e21", 1e20: "100000000000000000000", 1e-7: "0.0000001", -1e-8: "-1e-8", least: "5e-324", inf: "Inf", -inf: "-Inf", 0x1p53: "9007199254740992", greatest: "1.7976931348623157e308"} {
		if got := show.Plain(x); got != want {
			t.Errorf("6.2: Plain(%v): %q; want %q", x, got, want)
		}
	}
	if got := show.Plain(minus0); got != "-0" {
		t.Errorf("6.2: Plain(-0): %q", got)
	}
	for _, x := range append(numbers(200), nans()...) {
		if got := show.Plain(x); got != number.Short(x) {
			t.Errorf("6.2: Plain(%v): %q", x, got)
		}
		if got := shown(t, x, api.Format{Kind: api.General}); got != number.Short(x) {
			t.Errorf("6.1: %v by g0: %q", x, got)
		}
	}
}

// 6.3, 6.6: the code of every format, and the format of every code.
func TestCodes(t *testing.T) {
	var widths []int
	for width := 0; width <= 64; width++ {
		widths = append(widths, width)
	}
	for _, f := range formats(widths...) {
		want := fmt.Sprintf("%c%d", " gfspq"[f.Kind], f.Places)
		if f.Group {
			want += ","
		}
		if f.Width > 0 {
			want += fmt.Sprintf(":%d", f.Width)
		}
		code, err := show.Code(f)
		if code != want || err != api.OK {
			t.Errorf("6.3: Code(%+v): %q, %d", f, code, err)
		}
		if back, err := show.Read(code); back != f || err != api.OK {
			t.Errorf("6.6: Read(%q): %+v, %d", code, back, err)
		}
	}
}

// 6.3, 6.6: of all short texts of some bytes just the codes are read, and told again.
func TestReads(t *testing.T) {
	const number = `(?:30|[12]?[0-9])`
	codes := regexp.MustCompile(`^(?:[gs]` + number + `|[fp]` + number + `,?|q[123])(?::(?:6[0-4]|[1-5]?[0-9]))?$`)
	nought := regexp.MustCompile(`:0`)
	found := 0
	var try func(text string, more int)
	try = func(text string, more int) {
		f, err := show.Read(text)
		switch {
		case codes.MatchString(text) && !nought.MatchString(text):
			found++
			if err != api.OK || !show.Valid(f) {
				t.Errorf("6.3: Read(%q): %+v, %d", text, f, err)
			}
			if code, err := show.Code(f); code != text || err != api.OK {
				t.Errorf("6.6: Code of Read(%q): %q, %d", text, code, err)
			}
		case err != api.ErrForm || f != api.Format{}:
			t.Errorf("6.3: Read(%q): %+v, %d", text, f, err)
		}
		if more > 0 {
			for _, c := range "gfspqF0136,:-+ " {
				try(text+string(c), more-1)
			}
		}
	}
	try("", 5)
	if found < 300 {
		t.Errorf("6.3: %d codes alone", found)
	}
}

// 6.3: texts that are the code of no format.
func TestNoCodes(t *testing.T) {
	for _, text := range []string{
		"", " ", "F2", "G0", "f", "q", ",", ":", "2", "2f", "f02", "f00", "g00", "f2:0", "f2:01", "f2:00", "f2:", "f2,:", "f2,:0", "f2:,", "f2:5,", "f2::5", "f:5", "f,", "f,2", "f,:5", "f2,,", "f2;5", "f2.", "f2.0", "f1e1", "f0x1", "f1_0", "f-1", "f+1", "f-0", "f2:-1", "f2:+1", "f2:1.", "f2:5 ", "f2 ", " f2", "f 2", "f2\n", "f2\x00", "\x00", "\x002", "\x000", "f2:10:10", "f2,:10,", "f2x", "ff2", "gf2",
		"s1,", "g1,", "q1,", "g31", "f31", "s31", "p31", "q0", "q4", "q10", "f100", "f2:65", "f2:100", "f256", "f4294967296", "f18446744073709551616", "f18446744073709551618", "f2:18446744073709551621", "f2:4294967301", "f99999999999999999999999999", "f٣", "f２", "ｆ2", "\xff2", "f\xff", "e2", "h2", "0", "#", "f" + strings.Repeat("0", 1000) + "2", "f2:" + strings.Repeat("0", 1000) + "5", "f2" + strings.Repeat(",", 1000), strings.Repeat("f", 1000),
	} {
		if f, err := show.Read(text); err != api.ErrForm || (f != api.Format{}) {
			t.Errorf("6.3: Read(%q): %+v, %d", text, f, err)
		}
	}
	for text, want := range map[string]api.Format{"f2,:10": {Kind: 2, Places: 2, Group: true, Width: 10}, "g0": {Kind: 1}, "p30,:64": {Kind: 4, Places: 30, Group: true, Width: 64}, "q3": {Kind: 5, Places: 3}, "s0:1": {Kind: 3, Width: 1}} {
		if f, err := show.Read(text); err != api.OK || f != want {
			t.Errorf("6.3: Read(%q): %+v, %d", text, f, err)
		}
	}
}

// bareText is a shown text without commas and blanks; ok is false where there was no room.
func bareText(text string) (string, bool) {
	return strings.NewReplacer(",", "", " ", "").Replace(text), !strings.Contains(text, "#")
}

// 6.4: what is shown is read, and is as near as any decimal of so many places or figures.
func TestNear(t *testing.T) {
	asked := 0
	for _, x := range numbers(25) {
		for _, f := range formats(0, 24) {
			text, ok := bareText(shown(t, x, f))
			if !ok || f.Kind > api.Scientific || f.Kind == api.General && f.Places == 0 {
				continue
			}
			asked++
			value, right := new(big.Rat).SetString(text)
			if !right {
				t.Fatalf("6.4: %v by %+v: %q", x, f, text)
			}
			unit := tens(-f.Places)
			if f.Kind != api.Fixed {
				unit = figureUnit(x, f)
			}
			gap := value.Abs(value).Sub(value, rat(x))
			if gap.Abs(gap).Cmp(unit.Mul(unit, big.NewRat(1, 2))) > 0 {
				t.Errorf("6.4: %v by %+v: %q is not near", x, f, text)
			}
			readsAs(t, x, text)
		}
	}
	if asked < 10000 {
		t.Errorf("6.4: %d texts alone", asked)
	}
}

// figureUnit is what the last figure of a format is worth.
func figureUnit(x float64, f api.Format) *big.Rat {
	n := f.Places
	if f.Kind == api.Scientific {
		n++
	}
	return tens(tenth(x) - n + 1)
}

// readsAs asks whether a text is read as the nearest number, with the sign of x.
func readsAs(t *testing.T, x float64, text string) {
	t.Helper()
	want, over := strconv.ParseFloat(text, 64)
	got, err := number.Parse(text)
	switch {
	case over != nil:
		if err != api.ErrOver {
			t.Errorf("6.4: %v: %q is read: %d", x, text, err)
		}
	case err != api.OK || math.Float64bits(got) != math.Float64bits(want) || math.Signbit(got) != math.Signbit(x):
		t.Errorf("6.4: %v: %q is read as %v, %d", x, text, got, err)
	}
}

// 6.4: Plain, and General with 17 Places, are read as the number, bit by bit.
func TestReadBack(t *testing.T) {
	for _, x := range numbers(400) {
		for _, text := range []string{show.Plain(x), shown(t, x, api.Format{Kind: api.General, Places: 17}), shown(t, x, api.Format{Kind: api.Scientific, Places: 16})} {
			if back, err := number.Parse(text); err != api.OK || math.Float64bits(back) != math.Float64bits(x) {
				t.Errorf("6.4: %v: %q is read as %v, %d", x, text, back, err)
			}
		}
	}
}

// 6.5: the same number is shown the same, its opposite but for the sign and blanks; no text is too long.
func TestOpposites(t *testing.T) {
	for _, x := range append(numbers(10), inf) {
		for _, f := range formats(0, 9) {
			one, other := shown(t, math.Abs(x), f), shown(t, -math.Abs(x), f)
			if again := shown(t, math.Abs(x), f); again != one {
				t.Errorf("6.5: %v by %+v: %q and %q", x, f, one, again)
			}
			if max(len(one), len(other)) > 64 {
				t.Errorf("6.5: %v by %+v: %q, %q", x, f, one, other)
			}
			if strings.Contains(one+other, "#") {
				continue
			}
			if "-"+strings.TrimLeft(one, " ") != strings.TrimLeft(other, " ") {
				t.Errorf("6.5: %v by %+v: %q, %q", x, f, one, other)
			}
		}
	}
}

// 6.5: a greater number's Fixed text is never that of a lesser decimal.
func TestFixedOrder(t *testing.T) {
	l := numbers(200)
	for _, x := range []float64{0.5, 2.5, 0.125, 999.5} {
		for range 3 {
			l = append(l, x)
			x = math.Nextafter(x, 0)
		}
	}
	slices.Sort(l)
	for _, code := range []string{"f0", "f1", "f2,", "f7", "f17,", "f30"} {
		last := new(big.Rat).SetInt64(math.MinInt64)
		last.Mul(last, tens(60))
		for _, x := range l {
			text, ok := bareText(shown(t, x, format(t, code)))
			if !ok {
				continue
			}
			v, right := new(big.Rat).SetString(text)
			if !right || v.Cmp(last) < 0 {
				t.Errorf("6.5: %v by %s: %q", x, code, text)
				continue
			}
			last = v
		}
	}
}
