package parts_test

import (
	"math"
	"math/big"
	"math/bits"
	"math/rand"
	"testing"

	"quadrille/api"
	"quadrille/parts"
)

const (
	sign     = 1 << 63
	infinity = 0x7FF << 52
	theNaN   = 0x7FF8 << 48
)

func of(b uint64) float64   { return math.Float64frombits(b) }
func pat(x float64) uint64  { return math.Float64bits(x) }
func isNaN(x float64) bool  { return x != x }
func finite(x float64) bool { return x-x == 0 }

// nans have quiet and signalling bits, of both signs.
func nans() []float64 {
	var l []float64
	for _, b := range []uint64{theNaN, theNaN + 1, infinity + 1, infinity + 5, 1<<63 - 1, 0x7FF7FFFFFFFFFFFF} {
		l = append(l, of(b), of(b|sign))
	}
	return l
}

// edges are the numbers but the NaN that the document names, and their neighbours, of both signs.
func edges() []float64 {
	var l []float64
	for _, b := range []uint64{0, 1, 2, 3,
		1<<52 - 1, 1 << 52, 1<<52 + 1, // the greatest subnormal, the least normal
		1<<53 - 1, 1 << 53, 1<<53 + 1,
		infinity - 2, infinity - 1, infinity, // the greatest
	} {
		l = append(l, of(b), of(b|sign))
	}
	for _, x := range []float64{1, 2, 3, 0.1, 0.5, 1e16, 1e308, 0x1p52, 0x1p53, 0x1p-1021, 0x1p-1000, 0x1p1023,
		0x1p-149, 0x1p-150, 0x1p-148, 0x1.8p-149, 0x1p-126, 0x1p-127, 0x1.fffffcp-127, 0x1.fffffep-127, 0x1p127, 0x1p128,
		math.MaxFloat32, 0x1.ffffffp127, 0x1.fffffefffffffp127, 0x1p24, 0x1p24 + 1, 0x1p24 - 1} {
		for _, y := range []float64{of(pat(x) - 1), x, of(pat(x) + 1)} {
			l = append(l, y, -y)
		}
	}
	return l
}

// samples are all of them, and many more of any bits.
func samples() []float64 {
	l := append(edges(), nans()...)
	r := rand.New(rand.NewSource(1))
	for range 2000 {
		b := r.Uint64()
		l = append(l, of(b), of(b%infinity), of(b>>12), of(b&^(1<<(r.Intn(52)+1)-1)), float64(math.Float32frombits(uint32(b))))
	}
	return l
}

// exact is a finite number's value.
func exact(x float64) *big.Rat { return new(big.Rat).SetFloat64(x) }

// magnitudeOf is the value m 2^e.
func magnitudeOf(m uint64, e int) *big.Rat {
	v := new(big.Rat).SetInt(new(big.Int).SetUint64(m))
	p := new(big.Int).Lsh(big.NewInt(1), uint(max(e, -e)))
	if e < 0 {
		return v.Quo(v, new(big.Rat).SetInt(p))
	}
	return v.Mul(v, new(big.Rat).SetInt(p))
}

// P1.1

func TestNan(t *testing.T) {
	if got := pat(parts.Nan()); got != theNaN {
		t.Errorf("Nan: %x", got)
	}
}

func TestOne(t *testing.T) {
	for _, x := range samples() {
		want := pat(x)
		if isNaN(x) {
			want = theNaN
		}
		if got := pat(parts.One(x)); got != want {
			t.Errorf("One(%x): %x", pat(x), got)
		}
	}
}

func TestTheKindsAreCounted(t *testing.T) {
	if parts.NaN != 1 || parts.Infinity != 2 || parts.Nought != 3 || parts.Subnormal != 4 || parts.Normal != 5 {
		t.Error("kinds", parts.NaN, parts.Infinity, parts.Nought, parts.Subnormal, parts.Normal)
	}
}

func TestClass(t *testing.T) {
	for _, c := range []struct {
		b    uint64
		want int
	}{{theNaN, 1}, {infinity + 1, 1}, {1<<63 - 1, 1}, {infinity, 2}, {0, 3}, {1, 4}, {1<<52 - 1, 4}, {1 << 52, 5}, {pat(1), 5}, {infinity - 1, 5}} {
		for _, b := range []uint64{c.b, c.b | sign} {
			if got := parts.Class(of(b)); got != c.want {
				t.Errorf("Class(%x): %d", b, got)
			}
		}
	}
}

func TestClassOfAny(t *testing.T) {
	for _, x := range samples() {
		want := 5
		switch {
		case isNaN(x):
			want = 1
		case math.IsInf(x, 0):
			want = 2
		case x == 0:
			want = 3
		case math.Abs(x) < 0x1p-1022:
			want = 4
		}
		if got := parts.Class(x); got != want {
			t.Errorf("Class(%x): %d", pat(x), got)
		}
	}
}

func TestNegative(t *testing.T) {
	for _, x := range samples() {
		want := x < 0 || x == 0 && math.IsInf(1/x, -1)
		if got := parts.Negative(x); got != want {
			t.Errorf("Negative(%x): %v", pat(x), got)
		}
	}
	for _, x := range nans() {
		if parts.Negative(x) {
			t.Errorf("Negative of the NaN %x", pat(x))
		}
	}
}

// P1.2

func TestSplit(t *testing.T) {
	for _, c := range []struct {
		x float64
		m uint64
		e int
	}{{0, 0, 0}, {1, 1 << 52, -52}, {0.1, 7205759403792794, -56}, {0x1p-1073, 2, -1074}, {0x1p-1074, 1, -1074},
		{of(1<<52 - 1), 1<<52 - 1, -1074}, {0x1p-1022, 1 << 52, -1074}, {0x1p-1021, 1 << 52, -1073}, {math.MaxFloat64, 1<<53 - 1, 971}} {
		for _, neg := range []bool{false, true} {
			x := c.x
			if neg {
				x = of(pat(x) | sign)
			}
			gotNeg, m, e, bad := parts.Split(x)
			if gotNeg != neg || m != c.m || e != c.e || bad != api.OK {
				t.Errorf("Split(%x): %v %d %d %d", pat(x), gotNeg, m, e, bad)
			}
		}
	}
}

func TestSplitIsExact(t *testing.T) {
	for _, x := range samples() {
		if !finite(x) {
			continue
		}
		neg, m, e, bad := parts.Split(x)
		if bad != api.OK || neg != math.Signbit(x) || magnitudeOf(m, e).Cmp(exact(math.Abs(x))) != 0 {
			t.Errorf("Split(%x): %v %d %d %d", pat(x), neg, m, e, bad)
		}
		if math.Abs(x) >= 0x1p-1022 && (m < 1<<52 || m >= 1<<53) {
			t.Errorf("Split(%x): a normal number's m is %d", pat(x), m)
		}
	}
}

func TestSplitRefuses(t *testing.T) {
	for _, x := range append(nans(), math.Inf(1), math.Inf(-1)) {
		if neg, m, e, bad := parts.Split(x); neg || m != 0 || e != 0 || bad != api.ErrNaN {
			t.Errorf("Split(%x): %v %d %d %d", pat(x), neg, m, e, bad)
		}
	}
}

// joined checks one Join of both signs.
func joined(t *testing.T, m uint64, e int, want float64, bad api.Errno) {
	t.Helper()
	for _, neg := range []bool{false, true} {
		b := pat(want)
		if neg && bad == api.OK {
			b |= sign
		}
		if x, got := parts.Join(neg, m, e); pat(x) != b || got != bad {
			t.Errorf("Join(%v, %d, %d): %x %d, not %x %d", neg, m, e, pat(x), got, b, bad)
		}
	}
}

func TestJoin(t *testing.T) {
	for _, c := range []struct {
		m    uint64
		e    int
		want float64
	}{{1, 0, 1}, {1 << 54, -54, 1}, {1 << 63, -63, 1}, {1 << 63, -63 - 1074, 0x1p-1074}, {1, -1074, 0x1p-1074}, {2, -1075, 0x1p-1074},
		{1<<52 - 1, -1074, of(1<<52 - 1)}, {1 << 52, -1074, 0x1p-1022}, {1, -1022, 0x1p-1022}, {1, 1023, 0x1p1023},
		{1<<53 - 1, 971, math.MaxFloat64}, {1<<64 - 1<<11, 960, math.MaxFloat64}, {1<<64 - 1<<11, 0, 0x1.fffffffffffffp63}} {
		joined(t, c.m, c.e, c.want, api.OK)
	}
}

func TestJoinOfNought(t *testing.T) {
	for _, e := range []int{0, 1, -1, 9999, -9999, math.MaxInt, math.MinInt} {
		joined(t, 0, e, 0, api.OK)
	}
}

func TestJoinRefuses(t *testing.T) {
	for _, c := range []struct {
		m uint64
		e int
	}{{3, -1075}, {1, 1024}, {1<<53 + 1, 0}, {1<<64 - 1, 0}, {1<<64 - 1<<10, 0}, {1, -1075}, {1 << 63, -63 - 1075}, {2, 1023},
		{1<<53 - 1, 972}, {1 << 53, 971}, {1 << 63, 961}, {1<<53 - 1, -1075},
		{1, math.MaxInt}, {1, math.MinInt}, {1 << 63, math.MaxInt}, {1 << 63, math.MinInt}, {1<<64 - 1, math.MaxInt}, {2, math.MaxInt - 1}, {2, math.MinInt}} {
		joined(t, c.m, c.e, 0, api.ErrRange)
	}
}

func TestJoinIsExact(t *testing.T) {
	r := rand.New(rand.NewSource(2))
	greatest := exact(math.MaxFloat64)
	for range 20000 {
		m := r.Uint64() >> r.Intn(64) << r.Intn(64)
		e := r.Intn(2400) - 1250
		if m == 0 {
			continue
		}
		v := magnitudeOf(m, e)
		want, _ := v.Float64()
		bad := api.OK
		if v.Cmp(greatest) > 0 || exact(want).Cmp(v) != 0 {
			want, bad = 0, api.ErrRange
		}
		joined(t, m, e, want, bad)
		if t.Failed() {
			return
		}
	}
}

// P1.3

// orderOf is the order as the document says it, value by value.
func orderOf(a, b float64) int {
	switch {
	case isNaN(a) && isNaN(b):
		return 0
	case isNaN(a):
		return 1
	case isNaN(b):
		return -1
	case a < b:
		return -1
	case a > b:
		return 1
	case a == 0 && math.Signbit(a) != math.Signbit(b):
		if math.Signbit(a) {
			return -1
		}
		return 1
	}
	return 0
}

func TestOrder(t *testing.T) {
	l := append(edges(), nans()...)
	l = append(l, samples()[:1000]...)
	for _, a := range l {
		for _, b := range l {
			want := orderOf(a, b)
			if got := parts.Order(a, b); got != want {
				t.Fatalf("Order(%x, %x): %d", pat(a), pat(b), got)
			}
			if got := parts.Same(a, b); got != (want == 0) {
				t.Fatalf("Same(%x, %x): %v", pat(a), pat(b), got)
			}
		}
	}
}

func TestOrderExamples(t *testing.T) {
	minus, inf := of(sign), math.Inf(1)
	for _, c := range []struct {
		a, b float64
		want int
	}{{minus, 0, -1}, {0, minus, 1}, {0, 0, 0}, {minus, minus, 0}, {math.NaN(), inf, 1}, {inf, math.NaN(), -1}, {of(sign | theNaN), of(infinity + 1), 0},
		{-1, -2, 1}, {-inf, -math.MaxFloat64, -1}, {inf, math.MaxFloat64, 1}, {of(1), 0, 1}, {of(1 | sign), minus, -1}, {-inf, of(sign | theNaN), -1}} {
		if got := parts.Order(c.a, c.b); got != c.want || parts.Same(c.a, c.b) != (c.want == 0) {
			t.Errorf("Order(%x, %x): %d", pat(c.a), pat(c.b), got)
		}
	}
}

// P1.4

func TestNextAndPrev(t *testing.T) {
	minus, least, inf := of(sign), of(1), math.Inf(1)
	row := [][]float64{
		{-inf, -math.MaxFloat64, of(pat(-math.MaxFloat64) - 1)},
		{of(sign | 1<<52), of(sign | (1<<52 - 1))}, // from a normal to a subnormal one, below nought
		{-2 * least, -least, minus, 0, least, 2 * least},
		{of(1<<52 - 1), of(1 << 52), of(1<<52 + 1)},
		{1 - 0x1p-53, 1, 1 + 0x1p-52},
		{-1 - 0x1p-52, -1, -1 + 0x1p-53},
		{of(infinity - 2), math.MaxFloat64, inf},
	}
	for _, l := range row {
		for i := range len(l) - 1 {
			if got := parts.Next(l[i]); pat(got) != pat(l[i+1]) {
				t.Errorf("Next(%x): %x", pat(l[i]), pat(got))
			}
			if got := parts.Prev(l[i+1]); pat(got) != pat(l[i]) {
				t.Errorf("Prev(%x): %x", pat(l[i+1]), pat(got))
			}
		}
	}
}

func TestNextAndPrevEnd(t *testing.T) {
	if got := parts.Next(math.Inf(1)); pat(got) != infinity {
		t.Errorf("Next of +infinity: %x", pat(got))
	}
	if got := parts.Prev(math.Inf(-1)); pat(got) != sign|infinity {
		t.Errorf("Prev of -infinity: %x", pat(got))
	}
	for _, x := range nans() {
		if pat(parts.Next(x)) != theNaN || pat(parts.Prev(x)) != theNaN {
			t.Errorf("the NaN %x: Next %x, Prev %x", pat(x), pat(parts.Next(x)), pat(parts.Prev(x)))
		}
	}
}

func TestNextAndPrevOfAny(t *testing.T) {
	for _, x := range samples() {
		if isNaN(x) || math.Abs(x) <= of(1) {
			continue
		}
		if got := parts.Next(x); pat(got) != pat(math.Nextafter(x, math.Inf(1))) {
			t.Errorf("Next(%x): %x", pat(x), pat(got))
		}
		if got := parts.Prev(x); pat(got) != pat(math.Nextafter(x, math.Inf(-1))) {
			t.Errorf("Prev(%x): %x", pat(x), pat(got))
		}
	}
}

func TestSteps(t *testing.T) {
	minus, inf := of(sign), math.Inf(1)
	for _, c := range []struct {
		a, b float64
		want int64
	}{{minus, 0, 1}, {0, minus, -1}, {1, 2, 1 << 52}, {2, 1, -1 << 52}, {0, 0, 0}, {inf, inf, 0}, {-inf, -inf, 0}, {of(sign | 1), of(1), 3},
		{0, inf, infinity}, {inf, 0, -infinity}, {minus, -inf, -infinity}, {-inf, 0, infinity + 1}, {math.MaxFloat64, inf, 1}, {-inf, -math.MaxFloat64, 1},
		{-1, 1, 2*0x3FF<<52 + 1}} {
		if n, bad := parts.Steps(c.a, c.b); n != c.want || bad != api.OK {
			t.Errorf("Steps(%x, %x): %d %d", pat(c.a), pat(c.b), n, bad)
		}
	}
}

// The longest ways that an int64 tells, and those that are one step longer.
func TestStepsFarApart(t *testing.T) {
	inf := math.Inf(1)
	below, last, behind := of(1<<52-2), of(1<<52-1), of(1<<52)
	for _, c := range []struct {
		a, b float64
		want int64
		bad  api.Errno
	}{{-inf, below, math.MaxInt64, api.OK}, {-inf, last, 0, api.ErrRange}, {last, -inf, math.MinInt64, api.OK}, {behind, -inf, 0, api.ErrRange},
		{-below, inf, math.MaxInt64, api.OK}, {-last, inf, 0, api.ErrRange}, {inf, -last, math.MinInt64, api.OK}, {inf, -behind, 0, api.ErrRange},
		{-inf, inf, 0, api.ErrRange}, {inf, -inf, 0, api.ErrRange}, {-math.MaxFloat64, math.MaxFloat64, 0, api.ErrRange}} {
		if n, bad := parts.Steps(c.a, c.b); n != c.want || bad != c.bad {
			t.Errorf("Steps(%x, %x): %d %d", pat(c.a), pat(c.b), n, bad)
		}
	}
}

func TestStepsRefusesTheNaN(t *testing.T) {
	for _, x := range nans() {
		for _, y := range []float64{0, 1, math.Inf(1), math.Inf(-1), x} {
			if n, bad := parts.Steps(x, y); n != 0 || bad != api.ErrNaN {
				t.Errorf("Steps(%x, %x): %d %d", pat(x), pat(y), n, bad)
			}
			if n, bad := parts.Steps(y, x); n != 0 || bad != api.ErrNaN {
				t.Errorf("Steps(%x, %x): %d %d", pat(y), pat(x), n, bad)
			}
		}
	}
}

func TestStepsAreNexts(t *testing.T) {
	for _, a := range samples() {
		if isNaN(a) {
			continue
		}
		b := a
		for i := range int64(5) {
			if n := stepsOf(t, a, b); n != i {
				t.Errorf("Steps(%x, %x): %d, not %d", pat(a), pat(b), n, i)
			}
			if pat(b) == infinity {
				break
			}
			b = parts.Next(b)
		}
	}
}

func stepsOf(t *testing.T, a, b float64) int64 {
	t.Helper()
	n, bad := parts.Steps(a, b)
	if bad != api.OK {
		t.Errorf("Steps(%x, %x): error %d", pat(a), pat(b), bad)
	}
	return n
}

func TestUnit(t *testing.T) {
	for _, c := range [][2]float64{{1, 0x1p-52}, {0, 0x1p-1074}, {0x1p-1074, 0x1p-1074}, {of(1<<52 - 1), 0x1p-1074}, {0x1p-1022, 0x1p-1074}, {0x1p-1021, 0x1p-1073},
		{2 - 0x1p-52, 0x1p-52}, {2, 0x1p-51}, {0x1p53, 2}, {0x1p52, 1}, {math.MaxFloat64, 0x1p971}, {0x1p-970, 0x1p-1022}, {0x1p-971, 0x1p-1023}} {
		for _, x := range []float64{c[0], of(pat(c[0]) | sign)} {
			if u, bad := parts.Unit(x); pat(u) != pat(c[1]) || bad != api.OK {
				t.Errorf("Unit(%x): %x %d", pat(x), pat(u), bad)
			}
		}
	}
}

func TestUnitOfEachExponent(t *testing.T) {
	for e := 1; e < 0x7FF; e++ {
		x := of(uint64(e)<<52 | 12345)
		if u, bad := parts.Unit(x); pat(u) != pat(math.Ldexp(1, e-1075)) || bad != api.OK {
			t.Errorf("Unit(%x): %x %d", pat(x), pat(u), bad)
		}
	}
}

func TestUnitRefuses(t *testing.T) {
	for _, x := range append(nans(), math.Inf(1), math.Inf(-1)) {
		if u, bad := parts.Unit(x); pat(u) != 0 || bad != api.ErrNaN {
			t.Errorf("Unit(%x): %x %d", pat(x), pat(u), bad)
		}
	}
}

// P1.5

func TestSingle(t *testing.T) {
	for _, c := range []struct {
		x    float64
		want bool
	}{{0, true}, {0.5, true}, {1, true}, {0.1, false}, {math.Inf(1), true}, {0x1p24, true}, {0x1p24 + 1, false}, {0x1p24 + 2, true},
		{0x1p-149, true}, {0x1p-150, false}, {0x1.8p-149, false}, {0x1p-148, true}, {0x1.8p-148, true}, {0x1p-126, true},
		{0x1.fffffcp-127, true}, {0x1.fffffep-127, false}, // the greatest subnormal single, and half a step more
		{math.MaxFloat32, true}, {0x1.ffffffp127, false}, {0x1p127, true}, {0x1p128, false}, {0x1p200, false},
		{1 + 0x1p-23, true}, {1 + 0x1p-24, false}, {of(1), false}, {0x1p-1022, false}, {math.MaxFloat64, false}} {
		for _, x := range []float64{c.x, of(pat(c.x) | sign)} {
			if got := parts.Single(x); got != c.want {
				t.Errorf("Single(%x): %v", pat(x), got)
			}
		}
	}
	for _, x := range nans() {
		if !parts.Single(x) {
			t.Errorf("Single of the NaN %x", pat(x))
		}
	}
}

func TestSingleOfAny(t *testing.T) {
	for _, x := range samples() {
		want := !finite(x)
		if math.Abs(x) <= math.MaxFloat32 {
			want = float64(float32(x)) == x
		}
		if got := parts.Single(x); got != want {
			t.Errorf("Single(%x): %v", pat(x), got)
		}
	}
}

// P1.6

func TestJoinOfSplit(t *testing.T) {
	for _, x := range samples() {
		neg, m, e, bad := parts.Split(x)
		if bad != api.OK {
			continue
		}
		if y, bad := parts.Join(neg, m, e); pat(y) != pat(x) || bad != api.OK {
			t.Errorf("Join of Split of %x: %x %d", pat(x), pat(y), bad)
		}
	}
}

func TestSplitOfJoin(t *testing.T) {
	r := rand.New(rand.NewSource(3))
	told := 0
	for range 20000 {
		m := r.Uint64() >> (11 + r.Intn(53)) << r.Intn(11)
		e := r.Intn(2200) - 1140
		x, bad := parts.Join(r.Intn(2) == 1, m, e)
		if bad != api.OK {
			continue
		}
		told++
		_, n, f, bad := parts.Split(x)
		if bad != api.OK || magnitudeOf(n, f).Cmp(magnitudeOf(m, e)) != 0 {
			t.Errorf("Split of Join of %d %d: %d %d %d", m, e, n, f, bad)
		}
	}
	if told < 10000 {
		t.Error("Join told only", told)
	}
}

func TestOrderIsAnOrder(t *testing.T) {
	l := append(edges()[:60], nans()[:3]...)
	for _, a := range l {
		for _, b := range l {
			ab := parts.Order(a, b)
			if ab != -parts.Order(b, a) {
				t.Fatalf("Order of %x and %x is not that of %x and %x turned round", pat(a), pat(b), pat(b), pat(a))
			}
			if (ab == 0) != (pat(parts.One(a)) == pat(parts.One(b))) {
				t.Fatalf("the same number: %x, %x", pat(a), pat(b))
			}
			for _, c := range l {
				if ab <= 0 && parts.Order(b, c) <= 0 && parts.Order(a, c) > 0 {
					t.Fatalf("no order: %x, %x, %x", pat(a), pat(b), pat(c))
				}
			}
		}
	}
}

func TestPrevOfNext(t *testing.T) {
	for _, x := range samples() {
		if isNaN(x) {
			continue
		}
		if y := parts.Prev(parts.Next(x)); pat(y) != pat(x) && pat(x) != infinity {
			t.Errorf("Prev of Next of %x: %x", pat(x), pat(y))
		}
		if y := parts.Next(parts.Prev(x)); pat(y) != pat(x) && pat(x) != sign|infinity {
			t.Errorf("Next of Prev of %x: %x", pat(x), pat(y))
		}
	}
}

func TestStepsToTheNext(t *testing.T) {
	for _, x := range samples() {
		if isNaN(x) || pat(x) == infinity {
			continue
		}
		y := parts.Next(x)
		if stepsOf(t, x, y) != 1 || stepsOf(t, y, x) != -1 || parts.Order(x, y) != -1 {
			t.Errorf("from %x to its Next %x", pat(x), pat(y))
		}
	}
}

func TestStepsAddUp(t *testing.T) {
	r := rand.New(rand.NewSource(4))
	l := samples()
	some := 0
	for range 20000 {
		a, b, c := l[r.Intn(len(l))], l[r.Intn(len(l))], l[r.Intn(len(l))]
		ab, bad1 := parts.Steps(a, b)
		bc, bad2 := parts.Steps(b, c)
		ac, bad3 := parts.Steps(a, c)
		if bad1 != api.OK || bad2 != api.OK || bad3 != api.OK {
			continue
		}
		some++
		if ab+bc != ac {
			t.Errorf("Steps of %x, %x, %x: %d, %d, %d", pat(a), pat(b), pat(c), ab, bc, ac)
		}
	}
	if some < 5000 {
		t.Error("Steps told only", some)
	}
}

func TestNextIsAUnitAway(t *testing.T) {
	for _, x := range samples() {
		y := parts.Next(x)
		if !finite(x) || !finite(y) || pat(x) == sign {
			continue
		}
		near := x
		if math.Abs(y) < math.Abs(x) {
			near = y
		}
		u, bad := parts.Unit(near)
		if bad != api.OK || new(big.Rat).Sub(exact(y), exact(x)).Cmp(exact(u)) != 0 {
			t.Errorf("from %x to %x: Unit %x %d", pat(x), pat(y), pat(u), bad)
		}
	}
}

// joinedDifference takes a from b in the whole parts of Split, and puts the difference together by Join.
func joinedDifference(a, b float64) (float64, api.Errno) {
	neg, m, e, _ := parts.Split(a)
	_, n, f, _ := parts.Split(b)
	if e < f {
		m, e, n, f, neg = n, f, m, e, !neg
	}
	m, borrow := bits.Sub64(m<<(e-f), n, 0)
	if borrow == 1 {
		m, neg = -m, !neg
	}
	return parts.Join(neg, m, f)
}

func TestDifferencesOfNearNumbers(t *testing.T) {
	r := rand.New(rand.NewSource(5))
	for _, a := range samples() {
		if !finite(a) || math.Abs(a) < 4*of(1) || math.Abs(a) > math.MaxFloat64/2 {
			continue
		}
		for _, b := range []float64{a, a * 2, a / 2, a * (0.5 + 1.5*r.Float64()), parts.Next(a)} {
			if math.Abs(b) > 2*math.Abs(a) || math.Abs(a) > 2*math.Abs(b) {
				continue // a half or a product that was rounded
			}
			d, bad := joinedDifference(a, b)
			if bad != api.OK || exact(d).Cmp(new(big.Rat).Sub(exact(a), exact(b))) != 0 || d != a-b {
				t.Errorf("%x less %x: %x %d", pat(a), pat(b), pat(d), bad)
			}
		}
	}
}
