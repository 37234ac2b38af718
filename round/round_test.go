package round_test

import (
	"math"
	"math/big"
	"math/rand"
	"slices"
	"sort"
	"strconv"
	"strings"
	"testing"

	"quadrille/api"
	"quadrille/dec"
	"quadrille/parts"
	"quadrille/round"
)

var (
	modes   = []int{api.Even, api.Away, api.Up, api.Down, api.Zero, api.Odd}
	wrong   = []int{0, -1, 7, 8, 1 << 32, 1<<32 + 1, math.MaxInt, math.MinInt}
	none    = api.Flags{}
	inexact = api.Flags{Inexact: true}
	over    = api.Flags{Inexact: true, Over: true}
	under   = api.Flags{Inexact: true, Under: true}
	inf     = math.Inf(1)
	minus0  = math.Copysign(0, -1)
)

// d is the decimal that a text says.
func d(text string) api.Dec {
	a, e := dec.Parse(text)
	if e != api.OK {
		panic("no decimal: " + text)
	}
	return a
}

// text tells a decimal without flooding the test's log.
func text(a api.Dec) string {
	if len(a.Digits) > 60 {
		a.Digits = a.Digits[:25] + ".." + a.Digits[len(a.Digits)-25:]
	}
	s := a.Digits + "e" + strconv.Itoa(a.Exp)
	if a.Neg {
		return "-" + s
	}
	return s
}

func opposite(a api.Dec) api.Dec {
	a, _ = dec.Neg(a)
	return a
}

// mayNotBe are decimals that may not be.
func mayNotBe() []api.Dec {
	l := []api.Dec{{Neg: true}, {Exp: 1}, {Exp: -1}, {Digits: "1", Exp: 20001}, {Digits: "1", Exp: -20001}, {Digits: "1", Exp: math.MaxInt}, {Digits: "1", Exp: math.MinInt}}
	for _, digits := range []string{"0", "10", "01", "x", "1x1", "-1", "1.5", " 1", "1/1", "1:1", "1\x001", "\xff", strings.Repeat("1", 8193)} {
		l = append(l, api.Dec{Digits: digits}, api.Dec{Neg: true, Digits: digits, Exp: -3})
	}
	return l
}

// A value is told by how its magnitude stands against any rational: 1 above it, 0, -1 below it.
type value struct {
	neg    bool
	stands func(r *big.Rat) int
}

func rat(a api.Dec) *big.Rat {
	n, _ := new(big.Int).SetString("0"+a.Digits, 10)
	power := new(big.Int).Exp(big.NewInt(10), big.NewInt(int64(max(a.Exp, -a.Exp))), nil)
	if a.Exp < 0 {
		return new(big.Rat).SetFrac(n, power)
	}
	return new(big.Rat).SetInt(n.Mul(n, power))
}

// exactly is the value of a decimal.
func exactly(a api.Dec) value {
	r := rat(a)
	return value{a.Neg, r.Cmp}
}

// quotientOf is the value a / b; what is compared is a and b times it.
func quotientOf(a, b api.Dec) value {
	p, q := rat(a), rat(b)
	return value{a.Neg != b.Neg && a.Digits != "", func(r *big.Rat) int { return p.Cmp(new(big.Rat).Mul(q, r)) }}
}

// rootOf is the value whose square is a; what is compared is the squares.
func rootOf(a api.Dec) value {
	r := rat(a)
	return value{false, func(x *big.Rat) int { return r.Cmp(new(big.Rat).Mul(x, x)) }}
}

// A kind of numbers, as the tests know it: the bits of its infinity, of its least normal number and of its sign, and the float64 of its bits.
type kind struct {
	infinity, normal, sign uint64
	top                    int
	float                  func(b uint64) float64
}

func doubles() kind {
	return kind{0x7FF0000000000000, 0x0010000000000000, 1 << 63, 1024, math.Float64frombits}
}

func singles() kind {
	return kind{0x7F800000, 0x00800000, 1 << 31, 128, func(b uint64) float64 { return float64(math.Float32frombits(uint32(b))) }}
}

// worth is the value of bits without a sign; the infinity stands for the first number beyond the greatest one.
func (k kind) worth(b uint64) *big.Rat {
	if b == k.infinity {
		return new(big.Rat).SetInt(new(big.Int).Lsh(big.NewInt(1), uint(k.top)))
	}
	return new(big.Rat).SetFloat64(k.float(b))
}

// between is the value p/q of the way from some bits' to the next ones'.
func (k kind) between(b uint64, p, q int64) *big.Rat {
	if b == k.infinity { // no more bits than those of the number ahead of it: twice its way
		w := new(big.Rat).Sub(k.worth(b), k.worth(b-1))
		w.Mul(w, big.NewRat(2*p, q))
		return w.Add(w, k.worth(b))
	}
	w := new(big.Rat).Sub(k.worth(b+1), k.worth(b))
	w.Mul(w, big.NewRat(p, q))
	return w.Add(w, k.worth(b))
}

// told rounds by the document's words: it looks for the two that are beside the value, and asks how the value stands against them and their middle. An answer for each mode.
func (k kind) told(v value) map[int]answer {
	l := map[int]answer{}
	beyond := v.stands(k.worth(k.infinity)) >= 0
	var low uint64
	if !beyond {
		low = uint64(sort.Search(int(k.infinity), func(i int) bool { return v.stands(k.worth(uint64(i)+1)) < 0 }))
	}
	exact := !beyond && v.stands(k.worth(low)) == 0
	middle := 0
	if !beyond && !exact {
		middle = v.stands(k.between(low, 1, 2))
	}
	small := v.stands(k.worth(k.normal)) < 0
	for _, m := range modes {
		b, f := low, none
		if !beyond && !exact {
			if choose(m, v.neg, low%2 == 1, middle) {
				b++
			}
			f = api.Flags{Inexact: true, Under: small}
		}
		if beyond || b == k.infinity {
			b, f = k.infinity, over
			if m == api.Zero || m == api.Odd || m == api.Up && v.neg || m == api.Down && !v.neg {
				b--
			}
		}
		if v.neg {
			b |= k.sign
		}
		l[m] = answer{b, f}
	}
	return l
}

type answer struct {
	bits  uint64
	flags api.Flags
}

// choose tells whether of the two beside a value it is the one farther from nought; middle: how the value stands against their middle.
func choose(mode int, neg, odd bool, middle int) bool {
	switch mode {
	case api.Even:
		return middle > 0 || middle == 0 && odd
	case api.Away:
		return middle >= 0
	case api.Up:
		return !neg
	case api.Down:
		return neg
	case api.Odd:
		return !odd
	}
	return false
}

// decimal is the decimal of a rational whose denominator is a power of two.
func decimal(r *big.Rat) api.Dec {
	halves := r.Denom().BitLen() - 1
	n := new(big.Int).Exp(big.NewInt(5), big.NewInt(int64(halves)), nil)
	a, e := dec.Made(false, n.Mul(n, r.Num()).String(), -halves)
	if e != api.OK {
		panic("no decimal")
	}
	return a
}

// edges are decimals about a kind's edges: numbers, middles and quarters between them, and each of them with a digit far behind it, more and less.
func (k kind) edges() []api.Dec {
	one := math.Float64bits(1)
	if k.top == 128 {
		one = uint64(math.Float32bits(1))
	}
	var l []api.Dec
	for _, b := range []uint64{0, 1, 2, 3, k.normal / 2, k.normal - 2, k.normal - 1, k.normal, k.normal + 1, 2*k.normal - 1, 2 * k.normal, one - 1, one, one + 1, one + k.normal - 1, one + 54*k.normal, k.infinity - 3, k.infinity - 2, k.infinity - 1, k.infinity} {
		for _, part := range []int64{0, 1, 2, 3} {
			l = append(l, near(decimal(k.between(b, part, 4)))...)
		}
	}
	beyond := k.worth(k.infinity)
	for range 3 {
		beyond = new(big.Rat).Mul(beyond, big.NewRat(3, 2))
		l = append(l, near(decimal(beyond))...)
	}
	return l
}

// near is a decimal that is not below 0, and those with a digit far behind it, more and less.
func near(a api.Dec) []api.Dec {
	l := []api.Dec{a}
	for _, digit := range []string{"1e-1200", "7e-2500"} {
		more, e := dec.Add(a, d(digit))
		if e != api.OK {
			panic("no room")
		}
		l = append(l, more)
		if less, _ := dec.Sub(a, d(digit)); !less.Neg {
			l = append(l, less)
		}
	}
	return l
}

// anyDecimal is one of at most so many digits, about nought or not.
func anyDecimal(r *rand.Rand, most, far int) api.Dec {
	b := make([]byte, 1+r.Intn(most))
	for i := range b {
		b[i] = byte('0' + r.Intn(10))
	}
	a, _ := dec.Made(r.Intn(2) == 0, string(b), r.Intn(2*far+1)-far-len(b))
	return a
}

// holds64 holds what a call tells of all modes against the words.
func holds64(t *testing.T, what string, v value, call func(mode int) (float64, api.Flags, api.Errno)) bool {
	t.Helper()
	want := doubles().told(v)
	for _, m := range modes {
		x, f, e := call(m)
		if (answer{math.Float64bits(x), f}) != want[m] || e != api.OK {
			t.Errorf("%s, mode %d: %x %+v %d; want %x %+v", what, m, x, f, e, math.Float64frombits(want[m].bits), want[m].flags)
			return false
		}
	}
	return true
}

func holdsTo64(t *testing.T, a api.Dec) bool {
	t.Helper()
	return holds64(t, "To64 "+text(a), exactly(a), func(m int) (float64, api.Flags, api.Errno) { return round.To64(a, m) })
}

func holdsTo32(t *testing.T, a api.Dec) bool {
	t.Helper()
	want := singles().told(exactly(a))
	for _, m := range modes {
		y, f, e := round.To32(a, m)
		if (answer{uint64(math.Float32bits(y)), f}) != want[m] || e != api.OK {
			t.Errorf("To32 %s, mode %d: %x %+v %d; want %x %+v", text(a), m, y, f, e, math.Float32frombits(uint32(want[m].bits)), want[m].flags)
			return false
		}
	}
	return true
}

func holdsRatio(t *testing.T, a, b api.Dec) bool {
	t.Helper()
	return holds64(t, "Ratio "+text(a)+" by "+text(b), quotientOf(a, b), func(m int) (float64, api.Flags, api.Errno) { return round.Ratio(a, b, m) })
}

func holdsRoot(t *testing.T, a api.Dec) bool {
	t.Helper()
	return holds64(t, "Root "+text(a), rootOf(a), func(m int) (float64, api.Flags, api.Errno) { return round.Root(a, m) })
}

// P3.1: the document's examples, and answers that are written out.
func TestTo64(t *testing.T) {
	greatest := math.MaxFloat64
	for _, c := range []struct {
		a    string
		want [6]float64 // Even, Away, Up, Down, Zero, Odd
		f    [6]api.Flags
	}{
		{"0", [6]float64{}, [6]api.Flags{}},
		{"1", [6]float64{1, 1, 1, 1, 1, 1}, [6]api.Flags{}},
		{"-0.5", [6]float64{-0.5, -0.5, -0.5, -0.5, -0.5, -0.5}, [6]api.Flags{}},
		{"0.1", [6]float64{0x1.999999999999ap-4, 0x1.999999999999ap-4, 0x1.999999999999ap-4, 0x1.9999999999999p-4, 0x1.9999999999999p-4, 0x1.9999999999999p-4}, all(inexact)},
		{"-0.1", [6]float64{-0x1.999999999999ap-4, -0x1.999999999999ap-4, -0x1.9999999999999p-4, -0x1.999999999999ap-4, -0x1.9999999999999p-4, -0x1.9999999999999p-4}, all(inexact)},
		{"9007199254740993", [6]float64{0x1p53, 0x1p53 + 2, 0x1p53 + 2, 0x1p53, 0x1p53, 0x1p53 + 2}, all(inexact)},
		{"9007199254740995", [6]float64{0x1p53 + 4, 0x1p53 + 4, 0x1p53 + 4, 0x1p53 + 2, 0x1p53 + 2, 0x1p53 + 2}, all(inexact)},
		{"1e309", [6]float64{inf, inf, inf, greatest, greatest, greatest}, all(over)},
		{"-1e309", [6]float64{-inf, -inf, -greatest, -inf, -greatest, -greatest}, all(over)},
		{"1e-400", [6]float64{0, 0, 0x1p-1074, 0, 0, 0x1p-1074}, all(under)},
		{"-1e-400", [6]float64{minus0, minus0, minus0, -0x1p-1074, minus0, -0x1p-1074}, all(under)},
		{"1.7976931348623158e308", [6]float64{greatest, greatest, inf, greatest, greatest, greatest}, [6]api.Flags{inexact, inexact, over, inexact, inexact, inexact}},
		{"2.2250738585072014e-308", [6]float64{0x1p-1022, 0x1p-1022, 0x1.0000000000001p-1022, 0x1p-1022, 0x1p-1022, 0x1.0000000000001p-1022}, all(inexact)},
		{"2.2250738585072013e-308", [6]float64{0x1p-1022, 0x1p-1022, 0x1p-1022, 0x0.fffffffffffffp-1022, 0x0.fffffffffffffp-1022, 0x0.fffffffffffffp-1022}, all(under)},
	} {
		for i, m := range modes {
			x, f, e := round.To64(d(c.a), m)
			if math.Float64bits(x) != math.Float64bits(c.want[i]) || f != c.f[i] || e != api.OK {
				t.Errorf("To64 %s, mode %d: %x %+v %d", c.a, m, x, f, e)
			}
		}
	}
}

func all(f api.Flags) [6]api.Flags { return [6]api.Flags{f, f, f, f, f, f} }

// P3.1: answers that are written out, of singles.
func TestTo32(t *testing.T) {
	greatest, least := float32(math.MaxFloat32), float32(0x1p-149)
	infinity, none32 := float32(inf), float32(minus0)
	for _, c := range []struct {
		a    string
		want [6]float32
		f    [6]api.Flags
	}{
		{"0", [6]float32{}, [6]api.Flags{}},
		{"16777217", [6]float32{1 << 24, 1<<24 + 2, 1<<24 + 2, 1 << 24, 1 << 24, 1<<24 + 2}, all(inexact)},
		{"16777219", [6]float32{1<<24 + 4, 1<<24 + 4, 1<<24 + 4, 1<<24 + 2, 1<<24 + 2, 1<<24 + 2}, all(inexact)},
		{"0.1", [6]float32{0x1.99999ap-4, 0x1.99999ap-4, 0x1.99999ap-4, 0x1.999998p-4, 0x1.999998p-4, 0x1.99999ap-4}, all(inexact)},
		{"-1e39", [6]float32{-infinity, -infinity, -greatest, -infinity, -greatest, -greatest}, all(over)},
		{"340282356779733661637539395458142568447", [6]float32{greatest, greatest, infinity, greatest, greatest, greatest}, [6]api.Flags{inexact, inexact, over, inexact, inexact, inexact}},
		{"340282356779733661637539395458142568448", [6]float32{infinity, infinity, infinity, greatest, greatest, greatest}, [6]api.Flags{over, over, over, inexact, inexact, inexact}},
		{"340282366920938463463374607431768211456", [6]float32{infinity, infinity, infinity, greatest, greatest, greatest}, all(over)},
		{"-1e-60", [6]float32{none32, none32, none32, -least, none32, -least}, all(under)},
		{"1e-45", [6]float32{least, least, least, 0, 0, least}, all(under)},
	} {
		for i, m := range modes {
			y, f, e := round.To32(d(c.a), m)
			if math.Float32bits(y) != math.Float32bits(c.want[i]) || f != c.f[i] || e != api.OK {
				t.Errorf("To32 %s, mode %d: %x %+v %d", c.a, m, y, f, e)
			}
		}
	}
}

// P3.1 at the edges of both kinds, by all modes and both signs.
func TestToEdges(t *testing.T) {
	for _, k := range []kind{doubles(), singles()} {
		for _, a := range k.edges() {
			for _, b := range []api.Dec{a, opposite(a)} {
				if !holdsTo64(t, b) || !holdsTo32(t, b) {
					return
				}
			}
		}
	}
}

// P3.1 at decimals of all sizes.
func TestToAny(t *testing.T) {
	r := rand.New(rand.NewSource(31))
	for i := range 3000 {
		most, far := 25, 60
		if i%3 == 0 {
			far = 400
		}
		if i%50 == 0 {
			most = 2000
		}
		a := anyDecimal(r, most, far)
		if !holdsTo64(t, a) || !holdsTo32(t, a) {
			return
		}
	}
	ones := strings.Repeat("1", 8192)
	for _, exp := range []int{-20000, -19999, -8192 - 324, -8192, -1, 0, 1, 19999, 20000} {
		for _, digits := range []string{"1", "5", ones, strings.Repeat("9", 8192)} {
			a := api.Dec{Digits: digits, Exp: exp}
			if !holdsTo64(t, a) || !holdsTo32(t, opposite(a)) {
				return
			}
		}
	}
}

// P3.1: the library reads texts as the nearest numbers.
func TestToEvenRead(t *testing.T) {
	r := rand.New(rand.NewSource(32))
	for i := range 200000 {
		a := anyDecimal(r, 20, 20+i%330)
		s, _ := dec.Text(a)
		x, _ := strconv.ParseFloat(s, 64)
		y, _ := strconv.ParseFloat(s, 32)
		got, _, e := round.To64(a, api.Even)
		got32, _, e32 := round.To32(a, api.Even)
		if got != x || got32 != float32(y) || e != api.OK || e32 != api.OK {
			t.Fatalf("%s: %x %x %d %d; want %x %x", s, got, got32, e, e32, x, float32(y))
		}
	}
}

// P3.2: the document's examples, and answers that are written out.
func TestRatio(t *testing.T) {
	for _, c := range []struct {
		a, b string
		mode int
		want float64
		f    api.Flags
		e    api.Errno
	}{
		{"1", "3", api.Even, 0x1.5555555555555p-2, inexact, 0},
		{"1", "3", api.Up, 0x1.5555555555556p-2, inexact, 0},
		{"-1", "3", api.Up, -0x1.5555555555555p-2, inexact, 0},
		{"1", "-3", api.Down, -0x1.5555555555556p-2, inexact, 0},
		{"-2", "-3", api.Even, 0x1.5555555555555p-1, inexact, 0},
		{"0", "-7", api.Even, 0, none, 0},
		{"0", "7", api.Down, 0, none, 0},
		{"6", "4", api.Odd, 1.5, none, 0},
		{"1", "1e-1", api.Odd, 10, none, 0},
		{"-7", "7", api.Up, -1, none, 0},
		{"3", "9007199254740992e10", api.Even, 3.0 / 9007199254740992e10, inexact, 0},
		{"1e20000", "1e-20000", api.Even, inf, over, 0},
		{"1e20000", "-1e-20000", api.Up, -math.MaxFloat64, over, 0},
		{"1e-20000", "-1e20000", api.Even, minus0, under, 0},
		{"1e-20000", "1e20000", api.Up, 0x1p-1074, under, 0},
		{"1e20000", "1e20000", api.Even, 1, none, 0},
		{"1e-20000", "4e-20000", api.Even, 0.25, none, 0},
		{"1", "0", api.Even, 0, none, api.ErrDiv},
		{"-1", "0", api.Odd, 0, none, api.ErrDiv},
		{"0", "0", api.Even, 0, none, api.ErrDiv},
	} {
		x, f, e := round.Ratio(d(c.a), d(c.b), c.mode)
		if math.Float64bits(x) != math.Float64bits(c.want) || f != c.f || e != c.e {
			t.Errorf("Ratio %s by %s, mode %d: %x %+v %d", c.a, c.b, c.mode, x, f, e)
		}
	}
}

// P3.2 at the edges of the numbers: an edge times b, by b.
func TestRatioEdges(t *testing.T) {
	divisors := []api.Dec{d("3"), d("-7"), d("12345678901234567891e-300"), d("-99e500")}
	for i, v := range doubles().edges() {
		b := divisors[i%4]
		a, e := dec.Mul(v, b)
		if e != api.OK {
			t.Fatal("no product", e)
		}
		if !holdsRatio(t, a, b) || !holdsRatio(t, a, opposite(b)) {
			return
		}
		// The quotient is the edge itself, just.
		for _, m := range modes {
			x, f, _ := round.Ratio(a, b, m)
			y, g, _ := round.To64(v, m)
			if math.Float64bits(x) != math.Float64bits(y) || f != g {
				t.Fatalf("%s times and by %s, mode %d: %x %+v; want %x %+v", text(v), text(b), m, x, f, y, g)
			}
		}
	}
}

// P3.2 at any quotients: ends that recur, and those that don't.
func TestRatioAny(t *testing.T) {
	r := rand.New(rand.NewSource(33))
	for i := range 2500 {
		most, far := 1+i%25, 1+i%340
		if i%50 == 0 {
			most = 1500
		}
		a, b := anyDecimal(r, most, far), anyDecimal(r, 1+most/2, 170)
		if b.Digits != "" && !holdsRatio(t, a, b) {
			return
		}
	}
	for p := range 40 {
		for q := 1; q < 40; q++ {
			if !holdsRatio(t, dec.Int(int64(p-20)), dec.Int(int64(q))) {
				return
			}
		}
	}
	ones, nines := strings.Repeat("1", 8192), strings.Repeat("9", 8192)
	for _, c := range [][2]api.Dec{
		{{Digits: ones, Exp: -20000}, {Digits: nines, Exp: -20000}}, {{Digits: nines, Exp: 20000}, {Digits: ones, Exp: 20000}},
		{{Digits: nines, Exp: 20000}, {Digits: "1", Exp: -20000}}, {{Digits: "1", Exp: -20000}, {Digits: nines, Exp: 20000}},
		{{Digits: "1"}, {Digits: nines, Exp: -8192}}, {{Digits: nines, Exp: -8192}, {Digits: "1"}},
	} {
		if !holdsRatio(t, c[0], c[1]) || !holdsRatio(t, opposite(c[0]), c[1]) {
			return
		}
	}
}

// P3.3: the document's examples, and answers that are written out.
func TestRoot(t *testing.T) {
	for _, c := range []struct {
		a    string
		mode int
		want float64
		f    api.Flags
		e    api.Errno
	}{
		{"2", api.Even, 0x1.6a09e667f3bcdp0, inexact, 0},
		{"2", api.Zero, 0x1.6a09e667f3bccp0, inexact, 0},
		{"4", api.Odd, 2, none, 0},
		{"0", api.Odd, 0, none, 0},
		{"1", api.Up, 1, none, 0},
		{"0.25", api.Down, 0.5, none, 0},
		{"0.01", api.Even, 0.1, inexact, 0},
		{"10", api.Down, 0x1.94c583ada5b52p1, inexact, 0},
		{"100", api.Up, 10, none, 0},
		{"1e20000", api.Even, inf, over, 0},
		{"1e20000", api.Down, math.MaxFloat64, over, 0},
		{"1e-20000", api.Even, 0, under, 0},
		{"1e-19999", api.Odd, 0x1p-1074, under, 0},
		{"1e400", api.Even, 1e200, inexact, 0},
		{"-4", api.Even, 0, none, api.ErrNeg},
		{"-1e-20000", api.Up, 0, none, api.ErrNeg},
	} {
		x, f, e := round.Root(d(c.a), c.mode)
		if math.Float64bits(x) != math.Float64bits(c.want) || f != c.f || e != c.e {
			t.Errorf("Root %s, mode %d: %x %+v %d", c.a, c.mode, x, f, e)
		}
	}
}

// P3.3 at the edges of the numbers: their squares, and those with a digit far behind them, more and less.
func TestRootEdges(t *testing.T) {
	k := doubles()
	for _, v := range k.edges() {
		if len(v.Digits) > 1600 {
			continue // squares take time
		}
		square, e := dec.Mul(v, v)
		if e != api.OK {
			t.Fatal("no square", e)
		}
		for i, a := range near(square) {
			if !holdsRoot(t, a) {
				return
			}
			for _, m := range modes {
				x, f, _ := round.Root(a, m)
				y, g, _ := round.To64(v, m)
				if i == 0 && (math.Float64bits(x) != math.Float64bits(y) || f != g) {
					t.Fatalf("Root of the square of %s, mode %d: %x %+v; want %x %+v", text(v), m, x, f, y, g)
				}
			}
		}
	}
}

// P3.3 at any decimals, and squares of any.
func TestRootAny(t *testing.T) {
	r := rand.New(rand.NewSource(34))
	for i := range 2500 {
		most, far := 1+i%25, 1+i%700
		if i%50 == 0 {
			most = 1500
		}
		a := anyDecimal(r, most, far)
		a.Neg = false
		if i%3 == 0 {
			a, _ = dec.Mul(a, a)
		}
		if !holdsRoot(t, a) {
			return
		}
	}
	for n := range 300 {
		if !holdsRoot(t, dec.Int(int64(n))) {
			return
		}
	}
	for _, exp := range []int{-20000, -19999, -8193, -8192, 19999, 20000} {
		for _, digits := range []string{"1", "4", strings.Repeat("1", 8192), strings.Repeat("9", 8192)} {
			if !holdsRoot(t, api.Dec{Digits: digits, Exp: exp}) {
				return
			}
		}
	}
}

// P3.3: what the machine roots, of numbers whose square root it rounds once.
func TestRootOfNumbers(t *testing.T) {
	r := rand.New(rand.NewSource(35))
	for range 20000 {
		x := math.Abs(math.Float64frombits(r.Uint64()))
		a, e := dec.Of(x)
		if e != api.OK {
			continue
		}
		if y, _, _ := round.Root(a, api.Even); y != math.Sqrt(x) {
			t.Fatalf("Root of %x: %x; want %x", x, y, math.Sqrt(x))
		}
	}
}

// multiple rounds by the document's words to the whole multiples of 10^exp.
func multiple(a api.Dec, exp, mode int) (api.Dec, api.Errno) {
	r := rat(a)
	unit := rat(api.Dec{Digits: "1", Exp: exp})
	r.Quo(r, unit)
	low, rest := new(big.Int).QuoRem(r.Num(), r.Denom(), new(big.Int))
	middle := rest.Lsh(rest, 1).Cmp(r.Denom())
	if !r.IsInt() && choose(mode, a.Neg, low.Bit(0) == 1, middle) {
		low.Add(low, big.NewInt(1))
	}
	digits := low.String()
	short := strings.TrimRight(digits, "0")
	exp += len(digits) - len(short)
	switch {
	case short == "":
		return api.Dec{}, api.OK
	case exp > api.MaxExp:
		return api.Dec{}, api.ErrRange
	}
	return api.Dec{Neg: a.Neg, Digits: short, Exp: exp}, api.OK
}

func holdsPlaces(t *testing.T, a api.Dec, n int) bool {
	t.Helper()
	for _, m := range modes {
		b, e := round.Places(a, n, m)
		want, no := multiple(a, -n, m)
		if b != want || e != no {
			t.Errorf("Places %s, %d, mode %d: %s %d; want %s %d", text(a), n, m, text(b), e, text(want), no)
			return false
		}
	}
	return true
}

// P3.4: the document's examples, and answers that are written out: by Even, Away, Up, Down, Zero, Odd.
func TestPlaces(t *testing.T) {
	for _, c := range []struct {
		a    string
		n    int
		want [6]string
	}{
		{"2.5", 0, [6]string{"2", "3", "3", "2", "2", "3"}},
		{"-2.5", 0, [6]string{"-2", "-3", "-2", "-3", "-2", "-3"}},
		{"3.5", 0, [6]string{"4", "4", "4", "3", "3", "3"}},
		{"2.4999", 0, [6]string{"2", "2", "3", "2", "2", "3"}},
		{"2.5000000000000000000001", 0, [6]string{"3", "3", "3", "2", "2", "3"}},
		{"1250", -2, [6]string{"1200", "1300", "1300", "1200", "1200", "1300"}},
		{"0.04", 1, [6]string{"0", "0", "0.1", "0", "0", "0.1"}},
		{"-0.04", 1, [6]string{"0", "0", "0", "-0.1", "0", "-0.1"}},
		{"0.06", 1, [6]string{"0.1", "0.1", "0.1", "0", "0", "0.1"}},
		{"0.5", 0, [6]string{"0", "1", "1", "0", "0", "1"}},
		{"0.05", 0, [6]string{"0", "0", "1", "0", "0", "1"}},
		{"0.9", -5, [6]string{"0", "0", "100000", "0", "0", "100000"}},
		{"9.99", 1, [6]string{"10", "10", "10", "9.9", "9.9", "9.9"}},
		{"-999.5", 0, [6]string{"-1000", "-1000", "-999", "-1000", "-999", "-999"}},
		{"1.25", 2, [6]string{"1.25", "1.25", "1.25", "1.25", "1.25", "1.25"}},
		{"1.25", 20000, [6]string{"1.25", "1.25", "1.25", "1.25", "1.25", "1.25"}},
		{"0", -20000, [6]string{"0", "0", "0", "0", "0", "0"}},
		{"0", 20000, [6]string{"0", "0", "0", "0", "0", "0"}},
		{"1e-20000", 20000, [6]string{"1e-20000", "1e-20000", "1e-20000", "1e-20000", "1e-20000", "1e-20000"}},
		{"15e-20000", 19999, [6]string{"2e-19999", "2e-19999", "2e-19999", "1e-19999", "1e-19999", "1e-19999"}},
		{"5e19999", -20000, [6]string{"0", "1e20000", "1e20000", "0", "0", "1e20000"}},
		{"-1e-20000", -20000, [6]string{"0", "0", "0", "-1e20000", "0", "-1e20000"}},
		{"7e20000", -20000, [6]string{"7e20000", "7e20000", "7e20000", "7e20000", "7e20000", "7e20000"}},
	} {
		for i, m := range modes {
			b, e := round.Places(d(c.a), c.n, m)
			if b != d(c.want[i]) || e != api.OK {
				t.Errorf("Places %s, %d, mode %d: %s %d", c.a, c.n, m, text(b), e)
			}
		}
	}
}

// P3.4: what is refused for its exponent, and what is just not.
func TestPlacesRange(t *testing.T) {
	range11 := func(a string, n int, refused ...int) {
		for _, m := range modes {
			b, e := round.Places(d(a), n, m)
			want, no := multiple(d(a), -n, m)
			if b != want || e != no || (e == api.ErrRange) != slices.Contains(refused, m) || e == api.ErrRange && b != (api.Dec{}) {
				t.Errorf("Places %s, %d, mode %d: %s %d", a, n, m, text(b), e)
			}
		}
	}
	range11("95e19999", -20000, api.Even, api.Away, api.Up)
	range11("-95e19999", -20000, api.Even, api.Away, api.Down)
	range11("85e19999", -20000)
	range11("199e19998", -20000)
	range11("99999e19999", -20000, api.Even, api.Away, api.Up)
	range11("101e19999", -20000, api.Even, api.Away, api.Down, api.Zero)
	range11("105e19999", -20000, api.Even, api.Down, api.Zero)
	range11("995e19998", -19999, api.Even, api.Away, api.Up)
	range11("95e19998", -19999)
}

// P3.4 at any decimals, carries and long tails among them.
func TestPlacesAny(t *testing.T) {
	r := rand.New(rand.NewSource(36))
	for i := range 20000 {
		a := anyDecimal(r, 1+i%12, 6)
		if !holdsPlaces(t, a, r.Intn(30)-15) {
			return
		}
	}
	long := strings.Repeat("9", 8191)
	for _, digits := range []string{long, long + "5", long + "4", "4" + long, "5" + long, "5" + strings.Repeat("0", 8190) + "1", "49" + strings.Repeat("0", 8189) + "1", strings.Repeat("12", 4096)} {
		for _, exp := range []int{-20000, -8192, -1, 0, 11809, 20000} {
			for _, cut := range []int{0, 1, 2, 8190, 8191, 8192, 8193, 9000} {
				if n := -exp - cut; n >= -20000 && (!holdsPlaces(t, api.Dec{Digits: digits, Exp: exp}, n) || !holdsPlaces(t, api.Dec{Neg: true, Digits: digits, Exp: exp}, n)) {
					return
				}
			}
		}
	}
}

// P3.5: the document's examples, and answers that are written out: by Even, Away, Up, Down, Zero, Odd.
func TestFigures(t *testing.T) {
	for _, c := range []struct {
		a    string
		n    int
		want [6]string
	}{
		{"9.96", 2, [6]string{"10", "10", "10", "9.9", "9.9", "9.9"}},
		{"9.95", 2, [6]string{"10", "10", "10", "9.9", "9.9", "9.9"}},
		{"9.85", 2, [6]string{"9.8", "9.9", "9.9", "9.8", "9.8", "9.9"}},
		{"0.0012345", 3, [6]string{"0.00123", "0.00123", "0.00124", "0.00123", "0.00123", "0.00123"}},
		{"99", 1, [6]string{"100", "100", "100", "90", "90", "90"}},
		{"-99", 1, [6]string{"-100", "-100", "-90", "-100", "-90", "-90"}},
		{"0", 3, [6]string{"0", "0", "0", "0", "0", "0"}},
		{"0", 8192, [6]string{"0", "0", "0", "0", "0", "0"}},
		{"5", 1, [6]string{"5", "5", "5", "5", "5", "5"}},
		{"1.25", 3, [6]string{"1.25", "1.25", "1.25", "1.25", "1.25", "1.25"}},
		{"1.25", 8192, [6]string{"1.25", "1.25", "1.25", "1.25", "1.25", "1.25"}},
		{"1e-20000", 8192, [6]string{"1e-20000", "1e-20000", "1e-20000", "1e-20000", "1e-20000", "1e-20000"}},
		{"15e-20000", 1, [6]string{"2e-19999", "2e-19999", "2e-19999", "1e-19999", "1e-19999", "1e-19999"}},
		{"25e19999", 1, [6]string{"2e20000", "3e20000", "3e20000", "2e20000", "2e20000", "3e20000"}},
		{"7e20000", 1, [6]string{"7e20000", "7e20000", "7e20000", "7e20000", "7e20000", "7e20000"}},
		{"123e20000", 3, [6]string{"123e20000", "123e20000", "123e20000", "123e20000", "123e20000", "123e20000"}},
	} {
		for i, m := range modes {
			b, e := round.Figures(d(c.a), c.n, m)
			if b != d(c.want[i]) || e != api.OK {
				t.Errorf("Figures %s, %d, mode %d: %s %d", c.a, c.n, m, text(b), e)
			}
		}
	}
}

// P3.5: what is refused for its exponent.
func TestFiguresRange(t *testing.T) {
	for _, c := range []struct {
		a       string
		n       int
		refused []int
	}{
		{"12e20000", 1, modes},
		{"123e20000", 2, modes},
		{"-123e20000", 1, modes},
		{"95e19999", 1, []int{api.Even, api.Away, api.Up}},
		{"-95e19999", 1, []int{api.Even, api.Away, api.Down}},
		{"123e19999", 2, nil},
		{"129e19999", 2, nil},
		{"199e19999", 2, []int{api.Even, api.Away, api.Up}},
		{"101e19999", 2, []int{api.Even, api.Away, api.Down, api.Zero}},
		{strings.Repeat("9", 8192) + "e20000", 8191, modes},
		{strings.Repeat("9", 8192) + "e20000", 8192, nil},
		{strings.Repeat("9", 8192) + "e11808", 1, nil},
		{strings.Repeat("9", 8192) + "e11809", 1, []int{api.Even, api.Away, api.Up}},
		{strings.Repeat("9", 8192) + "e11810", 1, modes},
	} {
		for _, m := range modes {
			b, e := round.Figures(d(c.a), c.n, m)
			if (e == api.ErrRange) != slices.Contains(c.refused, m) || e != api.OK && (e != api.ErrRange || b != api.Dec{}) {
				t.Errorf("Figures %s, %d, mode %d: %s %d", text(d(c.a)), c.n, m, text(b), e)
			}
		}
	}
}

// P3.5 at any decimals: the greatest power of ten that is not above one is looked for by comparing.
func TestFiguresAny(t *testing.T) {
	r := rand.New(rand.NewSource(37))
	for i := range 20000 {
		a := anyDecimal(r, 1+i%12, 6)
		n := 1 + r.Intn(14)
		k := -30
		for a.Digits != "" && rat(api.Dec{Digits: "1", Exp: k + 1}).Cmp(rat(a)) <= 0 {
			k++
		}
		for _, m := range modes {
			b, e := round.Figures(a, n, m)
			want, _ := multiple(a, k-n+1, m)
			if b != want || e != api.OK {
				t.Fatalf("Figures %s, %d, mode %d: %s %d; want %s", text(a), n, m, text(b), e, text(want))
			}
		}
	}
	long := strings.Repeat("9", 8191)
	for _, digits := range []string{long, long + "5", long + "4", "4" + long, strings.Repeat("12", 4096)} {
		for _, n := range []int{1, 2, 8189, 8190, 8191, 8192} {
			for _, m := range modes {
				a := api.Dec{Neg: true, Digits: digits, Exp: -20000}
				b, e := round.Figures(a, n, m)
				want, _ := multiple(a, len(digits)-n-20000, m)
				if b != want || e != api.OK {
					t.Fatalf("Figures %s, %d, mode %d: %s %d; want %s", text(a), n, m, text(b), e, text(want))
				}
			}
		}
	}
}

// wrongAnswer tells whether a number beside an error is anything but +0 without flags, or the error is another one.
func wrongAnswer(x float64, f api.Flags, e, want api.Errno) bool {
	return math.Float64bits(x) != 0 || f != none || e != want
}

// All calls: ErrArg of a decimal that may not be, ahead of all else.
func TestWrongDecimals(t *testing.T) {
	one := d("-1")
	for _, a := range mayNotBe() {
		for _, m := range append(slices.Clone(modes), wrong...) {
			x, f, e := round.To64(a, m)
			y, g, e32 := round.To32(a, m)
			if wrongAnswer(x, f, e, api.ErrArg) || wrongAnswer(float64(y), g, e32, api.ErrArg) {
				t.Errorf("To64, To32 %q %d, mode %d: %x %d, %x %d", text(a), a.Exp, m, x, e, y, e32)
			}
			for _, pair := range [][2]api.Dec{{a, one}, {one, a}, {a, a}, {a, {}}, {{}, a}} {
				if x, f, e := round.Ratio(pair[0], pair[1], m); wrongAnswer(x, f, e, api.ErrArg) {
					t.Errorf("Ratio %q by %q, mode %d: %x %+v %d", text(pair[0]), text(pair[1]), m, x, f, e)
				}
			}
			if x, f, e := round.Root(a, m); wrongAnswer(x, f, e, api.ErrArg) {
				t.Errorf("Root %q, mode %d: %x %+v %d", text(a), m, x, f, e)
			}
			for _, n := range []int{0, 1, 5, -20000, 20001, math.MinInt} {
				b, e := round.Places(a, n, m)
				c, eF := round.Figures(a, n, m)
				if b != (api.Dec{}) || c != (api.Dec{}) || e != api.ErrArg || eF != api.ErrArg {
					t.Errorf("Places, Figures %q, %d, mode %d: %d %d", text(a), n, m, e, eF)
				}
			}
		}
	}
}

// All calls: ErrArg of a mode below 1 or above 6, ahead of all else.
func TestWrongModes(t *testing.T) {
	for _, m := range wrong {
		for _, s := range []string{"0", "1", "-4", "0.1", "1e309", "95e19999"} {
			a := d(s)
			x, f, e := round.To64(a, m)
			y, g, e32 := round.To32(a, m)
			if wrongAnswer(x, f, e, api.ErrArg) || wrongAnswer(float64(y), g, e32, api.ErrArg) {
				t.Errorf("To64, To32 %s, mode %d: %x %d, %x %d", s, m, x, e, y, e32)
			}
			for _, b := range []string{"0", "3"} {
				if x, f, e := round.Ratio(a, d(b), m); wrongAnswer(x, f, e, api.ErrArg) {
					t.Errorf("Ratio %s by %s, mode %d: %x %+v %d", s, b, m, x, f, e)
				}
			}
			if x, f, e := round.Root(a, m); wrongAnswer(x, f, e, api.ErrArg) {
				t.Errorf("Root %s, mode %d: %x %+v %d", s, m, x, f, e)
			}
			for _, n := range []int{1, 5, -20000, 20001} {
				b, e := round.Places(a, n, m)
				c, eF := round.Figures(a, n, m)
				if b != (api.Dec{}) || c != (api.Dec{}) || e != api.ErrArg || eF != api.ErrArg {
					t.Errorf("Places, Figures %s, %d, mode %d: %d %d", s, n, m, e, eF)
				}
			}
		}
	}
}

// P3.4, P3.5: ErrArg of an n out of its bounds, and none of one at their ends.
func TestWrongPlaces(t *testing.T) {
	for _, m := range modes {
		for _, a := range []api.Dec{{}, d("1"), d("-95e19999"), d("1e-20000")} {
			for _, n := range []int{-20001, 20001, math.MaxInt, math.MinInt, 1 << 32, -1 << 32} {
				if b, e := round.Places(a, n, m); b != (api.Dec{}) || e != api.ErrArg {
					t.Errorf("Places %s, %d, mode %d: %s %d", text(a), n, m, text(b), e)
				}
			}
			for _, n := range []int{0, -1, 8193, 20000, math.MaxInt, math.MinInt, 1<<32 + 1} {
				if b, e := round.Figures(a, n, m); b != (api.Dec{}) || e != api.ErrArg {
					t.Errorf("Figures %s, %d, mode %d: %s %d", text(a), n, m, text(b), e)
				}
			}
			for _, n := range []int{-20000, 20000} {
				if _, e := round.Places(a, n, m); e == api.ErrArg {
					t.Errorf("Places %s, %d, mode %d: %d", text(a), n, m, e)
				}
			}
			for _, n := range []int{1, 8192} {
				if _, e := round.Figures(a, n, m); e == api.ErrArg {
					t.Errorf("Figures %s, %d, mode %d: %d", text(a), n, m, e)
				}
			}
		}
	}
}

// P3.6: a number's decimal is rounded to that number.
func TestFollowsNumbers(t *testing.T) {
	r := rand.New(rand.NewSource(38))
	numbers := []float64{0, minus0, 1, -1, 0x1p-1074, -0x1p-1074, 0x0.fffffffffffffp-1022, 0x1p-1022, math.MaxFloat64, -math.MaxFloat64, 0x1p1023, 0.1}
	for range 5000 {
		numbers = append(numbers, math.Float64frombits(r.Uint64()), float64(math.Float32frombits(r.Uint32())), math.Float64frombits(r.Uint64()>>12))
	}
	for _, x := range numbers {
		a, e := dec.Of(x)
		if e != api.OK {
			continue
		}
		for _, m := range modes {
			y, f, _ := round.To64(a, m)
			if math.Float64bits(y) != math.Float64bits(x+0) || f != none { // -0 + 0 is +0
				t.Fatalf("To64 of %x, mode %d: %x %+v", x, m, y, f)
			}
			if z, g, _ := round.To32(a, m); parts.Single(x) && (float64(z) != x || g != none) {
				t.Fatalf("To32 of %x, mode %d: %x %+v", x, m, z, g)
			}
		}
	}
}

// some are decimals for what follows: edges of both kinds, both signs, and any.
func some() []api.Dec {
	r := rand.New(rand.NewSource(39))
	var l []api.Dec
	for _, a := range append(doubles().edges(), singles().edges()...) {
		l = append(l, a, opposite(a))
	}
	for i := range 4000 {
		l = append(l, anyDecimal(r, 1+i%40, 1+i%400))
	}
	return l
}

// P3.6: by Down and Up a value lies between, and these are one number or neighbours.
func TestFollowsBetween(t *testing.T) {
	for _, a := range some() {
		low, f, _ := round.To64(a, api.Down)
		high, g, _ := round.To64(a, api.Up)
		if below, e := dec.Of(low); e == api.OK {
			if c, _ := dec.Cmp(below, a); c > 0 || (c == 0) == f.Inexact {
				t.Fatalf("%s: Down %x %+v", text(a), low, f)
			}
		}
		if above, e := dec.Of(high); e == api.OK {
			if c, _ := dec.Cmp(a, above); c > 0 || (c == 0) == g.Inexact {
				t.Fatalf("%s: Up %x %+v", text(a), high, g)
			}
		}
		if f.Inexact != g.Inexact || f.Inexact && !parts.Same(parts.Next(low), high) || !f.Inexact && !parts.Same(low, high) {
			t.Fatalf("%s: Down %x %+v, Up %x %+v", text(a), low, f, high, g)
		}
	}
}

// P3.6: by Odd to 64 bits, and then by any mode to 32, is to 32 at once; by Even it isn't always.
func TestFollowsOdd(t *testing.T) {
	evenTwice := false
	for _, a := range some() {
		odd, _, _ := round.To64(a, api.Odd)
		even, _, _ := round.To64(a, api.Even)
		twice, e := dec.Of(odd)
		if e != api.OK {
			t.Fatalf("%s: by Odd an infinity", text(a))
		}
		for _, m := range modes {
			y, _, _ := round.To32(twice, m)
			once, _, _ := round.To32(a, m)
			// The value 0 has no sign: what Odd rounds to is never a nought of a value that is none.
			if math.Float32bits(y) != math.Float32bits(once) {
				t.Fatalf("%s, mode %d: twice %x, once %x", text(a), m, y, once)
			}
			if b, e := dec.Of(even); e == api.OK {
				z, _, _ := round.To32(b, m)
				evenTwice = evenTwice || z != once
			}
		}
	}
	if !evenTwice {
		t.Error("nowhere was it another one by Even twice")
	}
}

// P3.6: of a value below 0 it is the opposite's, with the other sign, Up and Down exchanged.
func TestFollowsOpposite(t *testing.T) {
	mirror := []int{api.Even: api.Even, api.Away: api.Away, api.Up: api.Down, api.Down: api.Up, api.Zero: api.Zero, api.Odd: api.Odd}
	seven := d("7e-3")
	for _, a := range some() {
		if a.Digits == "" {
			continue
		}
		b := opposite(a)
		for _, m := range modes {
			x, f, _ := round.To64(a, m)
			y, g, _ := round.To64(b, mirror[m])
			p, fp, _ := round.To32(a, m)
			q, fq, _ := round.To32(b, mirror[m])
			v, fv, _ := round.Ratio(a, seven, m)
			w, fw, _ := round.Ratio(b, seven, mirror[m])
			if math.Float64bits(x) != math.Float64bits(-y) || math.Float32bits(p) != math.Float32bits(-q) || math.Float64bits(v) != math.Float64bits(-w) || f != g || fp != fq || fv != fw {
				t.Fatalf("%s, mode %d: %x %x, %x %x, %x %x", text(a), m, x, y, p, q, v, w)
			}
			c, e := round.Places(a, 3, m)
			o, no := round.Places(b, 3, mirror[m])
			h, eh := round.Figures(a, 3, m)
			i, ei := round.Figures(b, 3, mirror[m])
			if c != opposite(o) || e != no || h != opposite(i) || eh != ei {
				t.Fatalf("%s, mode %d: Places, Figures %s %s %s %s", text(a), m, text(c), text(o), text(h), text(i))
			}
		}
	}
}

// P3.6: a greater value is never rounded to a lesser number.
func TestFollowsOrder(t *testing.T) {
	l := some()
	slices.SortFunc(l, func(a, b api.Dec) int {
		c, _ := dec.Cmp(a, b)
		return c
	})
	for _, m := range modes {
		for i := range len(l) - 1 {
			x, _, _ := round.To64(l[i], m)
			y, _, _ := round.To64(l[i+1], m)
			p, _, _ := round.To32(l[i], m)
			q, _, _ := round.To32(l[i+1], m)
			if x > y || p > q {
				t.Fatalf("%s, %s, mode %d: %x %x, %x %x", text(l[i]), text(l[i+1]), m, x, y, p, q)
			}
			if l[i].Neg {
				continue
			}
			v, _, _ := round.Root(l[i], m)
			w, _, _ := round.Root(l[i+1], m)
			if v > w {
				t.Fatalf("roots of %s, %s, mode %d: %x %x", text(l[i]), text(l[i+1]), m, v, w)
			}
		}
	}
}

// P3.6: by 1 a value is itself; the root of a square is the root's number.
func TestFollowsOneAndSquare(t *testing.T) {
	one := dec.Int(1)
	for _, a := range some() {
		square, e := dec.Mul(a, a)
		magnitude := a
		magnitude.Neg = false
		for _, m := range modes {
			x, f, _ := round.To64(a, m)
			y, g, _ := round.Ratio(a, one, m)
			if math.Float64bits(x) != math.Float64bits(y) || f != g {
				t.Fatalf("%s by 1, mode %d: %x %+v; want %x %+v", text(a), m, y, g, x, f)
			}
			if e != api.OK {
				continue
			}
			x, f, _ = round.To64(magnitude, m)
			y, g, _ = round.Root(square, m)
			if math.Float64bits(x) != math.Float64bits(y) || f != g {
				t.Fatalf("root of the square of %s, mode %d: %x %+v; want %x %+v", text(a), m, y, g, x, f)
			}
		}
	}
}

// P3.6: Places by Zero twice, first to more places, is Places by Zero once; by Even it isn't always.
func TestFollowsPlaces(t *testing.T) {
	r := rand.New(rand.NewSource(40))
	for i := range 20000 {
		a := anyDecimal(r, 1+i%12, 8)
		n := r.Intn(20) - 10
		first, _ := round.Places(a, n+r.Intn(6), api.Zero)
		twice, e := round.Places(first, n, api.Zero)
		once, no := round.Places(a, n, api.Zero)
		if twice != once || e != no {
			t.Fatalf("%s, %d: twice %s %d, once %s %d", text(a), n, text(twice), e, text(once), no)
		}
	}
	first, _ := round.Places(d("1.46"), 1, api.Even)
	twice, _ := round.Places(first, 0, api.Even)
	once, _ := round.Places(d("1.46"), 0, api.Even)
	if first != d("1.5") || twice != d("2") || once != d("1") {
		t.Errorf("1.46 by Even: %s, twice %s, once %s", text(first), text(twice), text(once))
	}
}
