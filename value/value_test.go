package value_test

import (
	"fmt"
	"math"
	"math/rand"
	"strings"
	"testing"

	"quadrille/api"
	"quadrille/number"
	"quadrille/value"
)

// The bits of the NaN that is answered.
const nanBits = 0x7FF8000000000000

var (
	nan   = math.Float64frombits(nanBits)
	minus = math.Copysign(0, -1)
	inf   = math.Inf(1)
	// tiny is the least number above 0, small the greatest subnormal one.
	tiny  = math.Float64frombits(1)
	small = math.Float64frombits(1<<52 - 1)
	blank api.Value
)

// nans are float64s that are no numbers of mathematics, of either sign, quiet ones and others.
func nans() []float64 {
	var l []float64
	for _, bits := range []uint64{nanBits, 0xFFF8000000000000, 0x7FF0000000000001, 0xFFF0000000000001, 0x7FFFFFFFFFFFFFFF, 0xFFFFFFFFFFFFFFFF, 0x7FF8000000000001} {
		l = append(l, math.Float64frombits(bits))
	}
	return l
}

func num(x float64) api.Value { return api.Value{Kind: 1, X: x} }

func txt(s string) api.Value { return api.Value{Kind: 2, S: s} }

func truth(b bool) api.Value { return api.Value{Kind: 3, B: b} }

func fault(f int) api.Value { return api.Value{Kind: 4, F: f} }

// noKinds are Kinds that are none of the five.
func noKinds() []int {
	return []int{math.MinInt, math.MinInt + 1, -1 << 32, -257, -4, -1, 5, 6, 9, 256, 257, 1 << 32, 1<<32 + 1, 1<<32 + 4, math.MaxInt - 1, math.MaxInt}
}

// noFaults are numbers that are none of the five faults'.
func noFaults() []int {
	return []int{math.MinInt, math.MinInt + 1, -1 << 32, -5, -1, 0, 6, 7, 255, 257, 1<<32 + 1, math.MaxInt}
}

// told is a value with all its fields, X by its bits.
func told(v api.Value) string {
	s := fmt.Sprintf("%q", v.S)
	if len(s) > 60 {
		s = fmt.Sprintf("%s.. of %d", s[:60], len(v.S))
	}
	return fmt.Sprintf("{%d %x(%v) %s %v %d}", v.Kind, math.Float64bits(v.X), v.X, s, v.B, v.F)
}

// alike tells whether all fields of two values are the same, bit by bit.
func alike(a, b api.Value) bool {
	return a.Kind == b.Kind && math.Float64bits(a.X) == math.Float64bits(b.X) && a.S == b.S && a.B == b.B && a.F == b.F
}

// littered are values of which each has something in the fields that don't count.
func littered(v api.Value) []api.Value {
	l := []api.Value{v}
	for _, x := range []float64{minus, 1, nan, -inf} {
		w := v
		if v.Kind != 1 {
			w.X = x
		}
		if v.Kind != 2 {
			w.S = fmt.Sprint(x, "\xff")
		}
		if v.Kind != 3 {
			w.B = x == 1 || x == minus
		}
		if v.Kind != 4 {
			w.F = int(math.Float64bits(x)>>50) - 3
		}
		l = append(l, w)
	}
	return l
}

// P14.1: what may be.

func checkValid(t *testing.T, v api.Value, want bool) {
	t.Helper()
	if value.Valid(v) != want {
		t.Errorf("P14.1: Valid(%s): not %v", told(v), want)
	}
}

func TestValidOfEachKind(t *testing.T) {
	checkValid(t, blank, true)
	for _, x := range append(nans(), 0, minus, 1, -2.5, inf, -inf, tiny, -small, math.MaxFloat64) {
		checkValid(t, num(x), true)
	}
	checkValid(t, truth(true), true)
	checkValid(t, truth(false), true)
	for f := 1; f <= 5; f++ {
		checkValid(t, fault(f), true)
	}
	for _, f := range noFaults() {
		checkValid(t, fault(f), false)
	}
	for _, k := range noKinds() {
		checkValid(t, api.Value{Kind: k}, false)
		for _, v := range littered(api.Value{Kind: k}) {
			checkValid(t, v, false)
		}
		checkValid(t, api.Value{Kind: k, F: 1}, false)
	}
}

func TestValidOfTexts(t *testing.T) {
	e := "\u00e9"
	for _, s := range []string{"", "x", "\x00", "\x7f", e, "\uFFFD", "\U0010FFFF", "\uD7FF", "\uE000", strings.Repeat("x", 1023), strings.Repeat("x", 1024), strings.Repeat(e, 512), strings.Repeat("\U0001F600", 256)} {
		checkValid(t, txt(s), true)
	}
	for _, s := range []string{
		strings.Repeat("x", 1025), strings.Repeat(e, 512) + "x", strings.Repeat("x", 1023) + e, strings.Repeat("x", 1<<16),
		"\xff", "\x80", "\xc3", "a\xc3", "\xc3a", "\xe2\x82", "\xc0\x80", "\xe0\x80\x80", "\xed\xa0\x80", "\xed\xbf\xbf", "\xf4\x90\x80\x80", "\xf0\x80\x80\x80", strings.Repeat("x", 1023) + "\xc3", strings.Repeat("x", 1023) + "\xff",
	} {
		checkValid(t, txt(s), false)
	}
}

func TestValidAsksEachOtherField(t *testing.T) {
	for _, v := range []api.Value{blank, num(0), num(1), num(nan), num(minus), txt(""), txt("x"), truth(true), truth(false), fault(1), fault(5)} {
		checkValid(t, v, true)
		if v.Kind != 1 {
			for _, x := range append(nans(), minus, 1, tiny, -tiny, inf) {
				w := v
				w.X = x
				checkValid(t, w, false)
			}
		}
		if v.Kind != 2 {
			for _, s := range []string{"x", " ", "\x00", "\xff", strings.Repeat("x", 2000)} {
				w := v
				w.S = s
				checkValid(t, w, false)
			}
		}
		if v.Kind != 3 {
			w := v
			w.B = true
			checkValid(t, w, false)
		}
		if v.Kind != 4 {
			for _, f := range []int{1, 2, 3, 4, 5, 6, -1, 1 << 32, math.MinInt, math.MaxInt} {
				w := v
				w.F = f
				checkValid(t, w, false)
			}
		}
	}
}

// P14.1, P14.2: the same, and the order.

// rising are values, each list of which holds such as are the same, in their order.
func rising() [][]api.Value {
	var l [][]api.Value
	put := func(v ...api.Value) {
		var same []api.Value
		for _, w := range v {
			same = append(same, littered(w)...)
		}
		l = append(l, same)
	}
	for _, k := range noKinds() {
		if k < 0 {
			put(api.Value{Kind: k})
		}
	}
	put(blank)
	for _, x := range []float64{-inf, -math.MaxFloat64, -2, math.Nextafter(-2, 0), -small, -tiny, minus, 0, tiny, small, 0x1p-1022, 0.1, 1, 1e300, math.MaxFloat64, inf} {
		put(num(x))
	}
	var all []api.Value
	for _, x := range nans() {
		all = append(all, num(x))
	}
	put(all...)
	for _, s := range []string{"", "\x00", "\x00\x00", " ", "10", "9", "A", "AA", "Aa", "B", "TRUE", "a", "a\x00", "aB", "aa", "b", "z", "zz", "\x7f", "\x80", "\xc3", "\u00e9", "\u00e9a", "\u0416", "\uFFFD", "\U0001F600", "\xff", "\xff\xff"} {
		put(txt(s))
	}
	put(truth(false))
	put(truth(true))
	for _, f := range []int{math.MinInt, -1 << 32, -1, 0, 1, 2, 3, 4, 5, 6, 1<<32 + 1, math.MaxInt} {
		put(fault(f))
	}
	for _, k := range noKinds() {
		if k > 0 {
			put(api.Value{Kind: k})
		}
	}
	return l
}

func TestSameAndOrder(t *testing.T) {
	l := rising()
	for i, as := range l {
		for k, bs := range l {
			want := 0
			if i < k {
				want = -1
			} else if i > k {
				want = 1
			}
			for _, a := range as {
				for _, b := range bs {
					if got := value.Order(a, b); got != want {
						t.Fatalf("P14.2: Order(%s, %s): %d, not %d", told(a), told(b), got, want)
					}
					if got := value.Same(a, b); got != (i == k) {
						t.Fatalf("P14.1: Same(%s, %s): %v", told(a), told(b), got)
					}
				}
			}
		}
	}
}

// P14.3: as another kind.

// counted is what a value is as a number, as a text and as a truth, each with its fault.
type counted struct {
	v api.Value
	x float64
	f int
	s string
	g int
	b bool
	h int
}

// checkCounted holds Num, Str and Bool of a value against what they should tell, whatever stands in the fields that don't count.
func checkCounted(t *testing.T, c counted) {
	t.Helper()
	for _, v := range littered(c.v) {
		if x, f := value.Num(v); math.Float64bits(x) != math.Float64bits(c.x) || f != c.f {
			t.Errorf("P14.3: Num(%s): %v (%x), %d; not %v, %d", told(v), x, math.Float64bits(x), f, c.x, c.f)
		}
		if s, g := value.Str(v); s != c.s || g != c.g {
			t.Errorf("P14.3: Str(%s): %q, %d; not %q, %d", told(v), s, g, c.s, c.g)
		}
		if b, h := value.Bool(v); b != c.b || h != c.h {
			t.Errorf("P14.3: Bool(%s): %v, %d; not %v, %d", told(v), b, h, c.b, c.h)
		}
	}
}

func TestBlanksNumbersAndTruthsCount(t *testing.T) {
	for _, c := range []counted{
		{v: blank},
		{v: num(0), s: "0"},
		{v: num(minus), x: minus, s: "-0"},
		{v: num(1), x: 1, s: "1", b: true},
		{v: num(-1), x: -1, s: "-1", b: true},
		{v: num(2), x: 2, s: "2", b: true},
		{v: num(0.1), x: 0.1, s: "0.1", b: true},
		{v: num(0.3), x: 0.3, s: "0.3", b: true},
		{v: num(1e20), x: 1e20, s: "100000000000000000000", b: true},
		{v: num(1e21), x: 1e21, s: "1e21", b: true},
		{v: num(1e-7), x: 1e-7, s: "0.0000001", b: true},
		{v: num(1e-8), x: 1e-8, s: "1e-8", b: true},
		{v: num(tiny), x: tiny, s: "5e-324", b: true},
		{v: num(-tiny), x: -tiny, s: "-5e-324", b: true},
		{v: num(1 << 53), x: 1 << 53, s: "9007199254740992", b: true},
		{v: num(math.MaxFloat64), x: math.MaxFloat64, s: "1.7976931348623157e308", b: true},
		{v: num(inf), x: inf, s: "Inf", b: true},
		{v: num(-inf), x: -inf, s: "-Inf", b: true},
		{v: truth(true), x: 1, s: "TRUE", b: true},
		{v: truth(false), s: "FALSE"},
	} {
		checkCounted(t, c)
	}
	// Of variables, as the sum of constants is exact.
	a, b := 0.1, 0.2
	checkCounted(t, counted{v: num(a + b), x: math.Float64frombits(0x3FD3333333333334), s: "0.30000000000000004", b: true})
	for _, x := range nans() {
		checkCounted(t, counted{v: num(x), x: nan, s: "NaN", h: api.FaultNum})
	}
}

func TestFaultsAndOnesOfNoKindCount(t *testing.T) {
	for f := 1; f <= 5; f++ {
		checkCounted(t, counted{v: fault(f), f: f, g: f, h: f})
	}
	for _, f := range noFaults() {
		checkCounted(t, counted{v: fault(f), f: 3, g: 3, h: 3})
	}
	for _, k := range noKinds() {
		checkCounted(t, counted{v: api.Value{Kind: k}, f: 3, g: 3, h: 3})
		for f := 1; f <= 5; f++ {
			v := api.Value{Kind: k, X: 1, S: "1", B: true, F: f}
			checkCounted(t, counted{v: v, f: 3, g: 3, h: 3})
		}
	}
}

// readsAs are texts that are numbers' ones.
func readsAs() map[string]float64 {
	return map[string]float64{
		"0": 0, "-0": minus, "+0": 0, "1": 1, "007": 7, "1e3": 1000, "1E+3": 1000, ".5": 0.5, "5.": 5, "-2.50": -2.5, "0.1": 0.1,
		"0x1.8p1": 3, "0XfP-1": 7.5, "-0x0p9": minus, "0xff": 255, "1e-400": 0, "-1e-400": minus, "5e-324": tiny,
		"NaN": nan, "Inf": inf, "+Inf": inf, "-Inf": -inf, "9007199254740993": 1 << 53,
		strings.Repeat("0", 1023) + "7": 7, strings.Repeat("0", 8191) + "7": 7, "1e" + strings.Repeat("0", 8189) + "1": 10,
	}
}

func TestTextsCountAsNumbers(t *testing.T) {
	for s, x := range readsAs() {
		checkCounted(t, counted{v: txt(s), x: x, s: s, h: 3})
	}
	for _, s := range []string{
		"", " ", "\t", "   ", " 7", "7 ", " 7 ", "\t7", "7\n", "7\x00", "\u00a07", "x", "1x", "1 2", "1,000", "1_000", "$1", "50%", "=1", "1/2", "+", "-", ".", "e5", "1e", "0x", "0x.p1", "--1", "+-1",
		"nan", "NAN", "+NaN", "-NaN", "inf", "INF", "Infinity", "1e400", "-1e400", "0x1p1024", "\u0661", "\uff11", "\xff", "1\xff", "#REF!", "#NUM!",
		strings.Repeat("0", 8192) + "7", strings.Repeat("9", 400), strings.Repeat("x", 8193), strings.Repeat("7", 1<<16),
	} {
		checkCounted(t, counted{v: txt(s), f: 3, s: s, h: 3})
	}
}

// sizes are all texts of a text's letters in both sizes.
func sizes(s string) []string {
	l := []string{""}
	for i := range len(s) {
		var more []string
		for _, head := range l {
			c := s[i : i+1]
			more = append(more, head+strings.ToUpper(c))
			if strings.ToLower(c) != strings.ToUpper(c) {
				more = append(more, head+strings.ToLower(c))
			}
		}
		l = more
	}
	return l
}

// spoiled are texts that are nearly a text, but none of its sizes: cut short, longer, with another byte, with letters of elsewhere.
func spoiled(s string) []string {
	var l []string
	for i := range len(s) {
		l = append(l, s[:i], s[:i]+s[i+1:])
		if i > 0 {
			l = append(l, s[i:])
		}
		for c := range 256 {
			letter := byte(c) | 0x20
			if byte(c) == s[i] || 'a' <= letter && letter <= 'z' && letter == s[i]|0x20 {
				continue
			}
			l = append(l, s[:i]+string([]byte{byte(c)})+s[i+1:])
		}
		// Wide letters, and those that fold to I, K and S.
		l = append(l, s[:i]+string(rune(s[i])-0x20+0xFF00)+s[i+1:], s[:i]+"\u0131"+s[i+1:], s[:i]+"\u0130"+s[i+1:], s[:i]+"\u017f"+s[i+1:], s[:i]+"\u212a"+s[i+1:], s[:i]+"\u0301"+s[i:])
	}
	for _, more := range []string{" ", "\x00", "!", "E", "\n", s} {
		l = append(l, s+more, more+s, " "+s+more)
	}
	return l
}

func TestTextsCountAsTruths(t *testing.T) {
	for _, s := range sizes("TRUE") {
		checkCounted(t, counted{v: txt(s), f: 3, s: s, b: true})
	}
	for _, s := range sizes("FALSE") {
		checkCounted(t, counted{v: txt(s), f: 3, s: s})
	}
	bad := append(spoiled("TRUE"), spoiled("FALSE")...)
	bad = append(bad, spoiled("true")...)
	bad = append(bad, spoiled("false")...)
	for _, s := range append(bad, "yes", "no", "T", "F", "1", "0", "NaN", "TRUEFALSE", "'TRUE'", "WAHR", "=TRUE", "#NUM!", "\xff", strings.Repeat("TRUE", 1<<14)) {
		if b, f := value.Bool(txt(s)); b || f != 3 {
			t.Errorf("P14.3: Bool(%q): %v, %d", s, b, f)
		}
	}
	for _, s := range []string{"falſe", "FALſE", "fal\u017fe", "\u017f"} {
		if b, f := value.Bool(txt(s)); b || f != 3 {
			t.Errorf("P14.3: Bool(%q): %v, %d", s, b, f)
		}
	}
}

// P14.5: what is made.

// faultTexts are the document's, by their numbers.
func faultTexts() map[int]string {
	return map[int]string{1: "#DIV!", 2: "#NUM!", 3: "#VALUE!", 4: "#REF!", 5: "#NONE!"}
}

func TestFaultTexts(t *testing.T) {
	for f, want := range faultTexts() {
		if s, err := value.FaultText(f); s != want || err != api.OK {
			t.Errorf("P14.5: FaultText(%d): %q, %d", f, s, err)
		}
		for _, s := range sizes(want) {
			if g, err := value.ParseFault(s); g != f || err != api.OK {
				t.Errorf("P14.5: ParseFault(%q): %d, %d", s, g, err)
			}
		}
		for _, s := range append(spoiled(want), spoiled(strings.ToLower(want))...) {
			if g, err := value.ParseFault(s); g != 0 || err != 3 {
				t.Errorf("P14.5: ParseFault(%q): %d, %d", s, g, err)
			}
		}
	}
	for _, f := range noFaults() {
		if s, err := value.FaultText(f); s != "" || err != 1 {
			t.Errorf("P14.5: FaultText(%d): %q, %d", f, s, err)
		}
	}
	for _, s := range []string{"", "#", "!", "#!", "#d\u0131v!", "#D\u0130V!", "#N/A", "#DIV/0!", "DIV", "1", "TRUE", "\xff", strings.Repeat("#REF!", 1<<12), strings.Repeat("\x00", 5), "#REF!\x00"} {
		if g, err := value.ParseFault(s); g != 0 || err != 3 {
			t.Errorf("P14.5: ParseFault(%.40q): %d, %d", s, g, err)
		}
	}
}

func checkMade(t *testing.T, from string, v, want api.Value) {
	t.Helper()
	if !alike(v, want) {
		t.Errorf("P14.5: %s: %s, not %s", from, told(v), told(want))
	}
	if !value.Valid(v) {
		t.Errorf("P14.6: %s: %s may not be", from, told(v))
	}
}

func TestOf(t *testing.T) {
	for _, x := range []float64{0, minus, 1, -2.5, inf, -inf, tiny, -small, math.MaxFloat64} {
		checkMade(t, fmt.Sprint("OfNumber ", x), value.OfNumber(x), num(x))
	}
	for _, x := range nans() {
		checkMade(t, "OfNumber of a NaN", value.OfNumber(x), num(nan))
	}
	for _, s := range []string{"", "x", "\x00", "\u00e9", "TRUE", "#REF!", "7", strings.Repeat("x", 1024), strings.Repeat("\u00e9", 512)} {
		checkMade(t, fmt.Sprintf("OfText %.40q", s), value.OfText(s), txt(s))
	}
	for _, s := range []string{"\xff", "\xc3", "x\x80", "\xed\xa0\x80", "\xc0\x80", strings.Repeat("x", 1025), strings.Repeat("\u00e9", 512) + "x", strings.Repeat("x", 1023) + "\xc3", strings.Repeat("x", 1<<20)} {
		checkMade(t, fmt.Sprintf("OfText %.40q", s), value.OfText(s), fault(3))
	}
	checkMade(t, "OfTruth true", value.OfTruth(true), truth(true))
	checkMade(t, "OfTruth false", value.OfTruth(false), truth(false))
	for f := 1; f <= 5; f++ {
		checkMade(t, fmt.Sprint("OfFault ", f), value.OfFault(f), fault(f))
	}
	for _, f := range noFaults() {
		checkMade(t, fmt.Sprint("OfFault ", f), value.OfFault(f), fault(3))
	}
}

func TestByError(t *testing.T) {
	byNumber := map[api.Errno]int{13: 1, 4: 5, 10: 2, 11: 2, 12: 2, 14: 2, 15: 2}
	errs := []api.Errno{math.MinInt, -1 << 32, math.MaxInt, 1 << 32, 1<<32 + 13, 256 + 13, 999}
	for e := api.Errno(-20); e <= 100; e++ {
		errs = append(errs, e)
	}
	xs := append(nans(), 0, minus, 1, -7.25, tiny, inf, -inf, math.MaxFloat64)
	for _, e := range errs {
		for _, x := range xs {
			want := num(x)
			if x != x {
				want = num(nan)
			}
			if e != 0 {
				f, ok := byNumber[e]
				if !ok {
					f = 3
				}
				want = fault(f)
			}
			checkMade(t, fmt.Sprintf("ByError(%v, %d)", x, e), value.ByError(x, e), want)
		}
	}
}

// P14.6: what follows of what is made.

func TestMadeAndBack(t *testing.T) {
	r := rand.New(rand.NewSource(141))
	for range 20000 {
		x := math.Float64frombits(r.Uint64())
		want := x
		if x != x {
			want = nan
		}
		if y, f := value.Num(value.OfNumber(x)); math.Float64bits(y) != math.Float64bits(want) || f != 0 {
			t.Fatalf("P14.6: Num of OfNumber(%x): %v, %d", math.Float64bits(x), y, f)
		}
		// A number as a text is read as that number again.
		s, g := value.Str(num(x))
		if y, f := value.Num(txt(s)); g != 0 || math.Float64bits(y) != math.Float64bits(want) || f != 0 || s != number.Short(x) {
			t.Fatalf("P14.3: Str(%x): %q, %d, read as %v, %d", math.Float64bits(x), s, g, y, f)
		}
	}
	for _, b := range []bool{true, false} {
		if c, f := value.Bool(value.OfTruth(b)); c != b || f != 0 {
			t.Errorf("P14.6: Bool of OfTruth(%v): %v, %d", b, c, f)
		}
		s, f := value.Str(truth(b))
		if c, g := value.Bool(txt(s)); c != b || f != 0 || g != 0 {
			t.Errorf("P14.3: Bool of Str of %v: %v, %d, %d", b, c, f, g)
		}
	}
	for range 5000 {
		s := randomText(r)
		v := value.OfText(s)
		if v.Kind != api.Text {
			continue
		}
		if got, f := value.Str(v); got != s || f != 0 {
			t.Fatalf("P14.6: Str of OfText(%q): %q, %d", s, got, f)
		}
	}
	for f := 1; f <= 5; f++ {
		s, _ := value.FaultText(f)
		if g, err := value.ParseFault(s); g != f || err != api.OK {
			t.Errorf("P14.6: ParseFault of FaultText(%d): %d, %d", f, g, err)
		}
	}
}
