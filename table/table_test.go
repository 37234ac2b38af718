package table_test

import (
	"math"
	"math/big"
	"math/rand"
	"testing"

	"quadrille/api"
	"quadrille/parts"
	"quadrille/table"
)

const (
	greatest = math.MaxFloat64
	least    = 0x1p-1074
	normal   = 0x1p-1022 // the least normal number
	unit     = 0x1p-52   // the worth of the last bit of 1
	overHalf = 0x1p970   // half of the worth of the greatest number's last bit
	nanBits  = 0x7FF8 << 48
)

var (
	inf    = math.Inf(1)
	minus0 = math.Copysign(0, -1)
	nan    = math.Float64frombits(nanBits)
)

func next(x float64) float64 { return math.Nextafter(x, inf) }
func prev(x float64) float64 { return math.Nextafter(x, -inf) }

// nans are float64s that are no number of mathematics.
func nans() []float64 {
	var l []float64
	for _, b := range []uint64{1, 9, 1<<51 - 1, 1 << 51, 1<<51 + 1, 1<<52 - 1} {
		l = append(l, math.Float64frombits(0x7FF<<52|b), math.Float64frombits(0xFFF<<52|b))
	}
	return l
}

// edges are numbers of every class, both signs of each.
func edges() []float64 {
	l := []float64{nan, nan}
	for _, x := range []float64{inf, 0, least, 2 * least, 3 * least, 0x1p-1050, prev(normal), normal, next(normal), 0x1p-537, 0x1p-60, 0x1p-53, next(0x1p-53), unit, 0.1, 0.2, 0.3, 0.5, prev(1), 1, next(1), next(next(1)), 1.5, 2, 3, 5, 6, 7, 10, 100, 0x1p27 + 1, 0x1p27 - 1, 0x1p53, 0x1p53 + 2, 0x1p512, overHalf, prev(overHalf), 0x1p1023, 1e308, prev(greatest), greatest} {
		l = append(l, x, -x)
	}
	return l
}

// finites are the finite ones of edges, and so many others.
func finites(r *rand.Rand, others int) []float64 {
	var l []float64
	for _, x := range edges() {
		if x-x == 0 {
			l = append(l, x)
		}
	}
	for len(l) < others {
		l = append(l, some(r))
	}
	return l
}

// some is a finite number of any magnitude, or one near to 1, or a subnormal one.
func some(r *rand.Rand) float64 {
	for {
		x := math.Float64frombits(r.Uint64())
		switch r.Intn(4) {
		case 0:
			x = math.Ldexp(2*r.Float64()-1, r.Intn(20)-10)
		case 1:
			x = math.Float64frombits(r.Uint64() >> (12 + r.Intn(52)))
		case 2:
			x = float64(r.Intn(2001) - 1000)
		}
		if x-x == 0 {
			return x
		}
	}
}

func exact(x float64) *big.Rat { return new(big.Rat).SetFloat64(x) }

func two(e int) *big.Rat {
	p := new(big.Rat).SetInt(new(big.Int).Lsh(big.NewInt(1), uint(max(e, -e))))
	if e < 0 {
		p.Inv(p)
	}
	return p
}

// An answer is a number and an error.
type answer struct {
	x   float64
	err api.Errno
}

func is(x float64) answer              { return answer{x: x} }
func bad(err api.Errno) answer         { return answer{err: err} }
func of(x float64, e api.Errno) answer { return answer{x, e} }

func (a answer) same(b answer) bool {
	return math.Float64bits(a.x) == math.Float64bits(b.x) && a.err == b.err
}

// nearest is the nearest of a value, by the document's words: of the whole multiples of the last bit's worth. Of 0 it is +0.
func nearest(v *big.Rat) answer {
	if v.Sign() == 0 {
		return is(0)
	}
	size := new(big.Rat).Abs(v)
	top := size.Num().BitLen() - size.Denom().BitLen()
	for size.Cmp(two(top)) < 0 {
		top--
	}
	last := max(top-52, -1074)
	count := size.Quo(size, two(last))
	m := new(big.Int).Quo(count.Num(), count.Denom())
	left := new(big.Rat).Sub(count, new(big.Rat).SetInt(m))
	if k := left.Cmp(big.NewRat(1, 2)); k > 0 || k == 0 && m.Bit(0) == 1 {
		m.Add(m, big.NewInt(1))
	}
	if m.BitLen()+last > 1024 {
		return bad(api.ErrOver)
	}
	x := math.Ldexp(float64(m.Int64()), last)
	if v.Sign() < 0 {
		x = -x
	}
	return is(x)
}

func negative(x float64) bool { return x == x && math.Signbit(x) }
func infinite(x float64) bool { return math.IsInf(x, 0) }

func signed(neg bool, x float64) float64 {
	if neg {
		return math.Copysign(x, -1)
	}
	return x
}

// The rows of the document's table, one behind the other.

func add(a, b float64) answer {
	switch {
	case a != a || b != b:
		return is(nan)
	case infinite(a) && infinite(b) && a != b:
		return is(nan)
	case infinite(a):
		return is(a)
	case infinite(b):
		return is(b)
	}
	sum := new(big.Rat).Add(exact(a), exact(b))
	if sum.Sign() == 0 {
		return is(signed(a == 0 && negative(a) && b == 0 && negative(b), 0))
	}
	return nearest(sum)
}

func sub(a, b float64) answer { return add(a, neg(b)) }

func neg(a float64) float64 {
	if a != a {
		return nan
	}
	return math.Float64frombits(math.Float64bits(a) ^ 1<<63)
}

func mul(a, b float64) answer {
	neg := negative(a) != negative(b)
	switch {
	case a != a || b != b:
		return is(nan)
	case infinite(a) && b == 0 || a == 0 && infinite(b):
		return is(nan)
	case infinite(a) || infinite(b):
		return is(signed(neg, inf))
	case a == 0 || b == 0:
		return is(signed(neg, 0))
	}
	return nearest(new(big.Rat).Mul(exact(a), exact(b)))
}

func div(a, b float64) answer {
	neg := negative(a) != negative(b)
	switch {
	case a != a || b != b:
		return is(nan)
	case b == 0:
		return bad(api.ErrDiv)
	case infinite(a) && infinite(b):
		return is(nan)
	case infinite(a) || a == 0:
		return is(signed(neg, math.Abs(a)))
	case infinite(b):
		return is(signed(neg, 0))
	}
	return nearest(new(big.Rat).Quo(exact(a), exact(b)))
}

func percent(a float64) answer { return div(a, 100) }

// rest is the exact a - b q.
func rest(a, b float64) *big.Rat {
	by := new(big.Rat).Quo(exact(a), exact(b))
	q := new(big.Int).Div(by.Num(), by.Denom()) // a denominator is above 0: it is rounded Down
	r := new(big.Rat).Mul(exact(b), new(big.Rat).SetInt(q))
	return r.Sub(exact(a), r)
}

func mod(a, b float64) answer {
	switch {
	case a != a || b != b:
		return is(nan)
	case b == 0:
		return bad(api.ErrDiv)
	case infinite(a):
		return is(nan)
	case infinite(b) && (a == 0 || negative(a) == negative(b)):
		return is(a)
	case infinite(b):
		return is(b)
	}
	r := rest(a, b)
	if r.Sign() == 0 {
		return is(signed(b < 0, 0))
	}
	return nearest(r)
}

func power(a, b float64) answer {
	odd := math.Mod(b, 2) != 0
	switch {
	case a != a || b != b:
		return is(nan)
	case b == 0:
		return is(1)
	case b == 0.5:
		return root(a)
	case b != math.Floor(b) || b > 64 || b < -64:
		return bad(api.ErrRange)
	case a == 0 && b < 0:
		return bad(api.ErrDiv)
	case (a == 0 || infinite(a)) && b > 0:
		return is(signed(negative(a) && odd, math.Abs(a)))
	case infinite(a):
		return is(signed(negative(a) && odd, 0))
	}
	p := big.NewRat(1, 1)
	for range int(math.Abs(b)) {
		p.Mul(p, exact(a))
	}
	if b < 0 {
		p.Inv(p)
	}
	return nearest(p)
}

// root's nearest is told by squares: half of the way to a neighbour is not a root of a number.
func root(a float64) answer {
	switch {
	case a != a:
		return is(nan)
	case a == 0:
		return is(a)
	case a < 0:
		return bad(api.ErrNeg)
	case infinite(a):
		return is(a)
	}
	m, e := math.Frexp(a)
	if e%2 != 0 {
		m, e = 2*m, e-1
	}
	// m is 1/2 to 2, so 2^110 m is whole, and its root has at least 54 bits: what is behind these is told by one more.
	square := new(big.Int).Lsh(big.NewInt(int64(math.Ldexp(m, 53))), 110-53)
	front := new(big.Int).Sqrt(square)
	if new(big.Int).Mul(front, front).Cmp(square) != 0 {
		front.Lsh(front, 1).Or(front, big.NewInt(1))
		e -= 2
	}
	return nearest(new(big.Rat).Mul(new(big.Rat).SetInt(front), two(e/2-55)))
}

func fused(a, b, c float64) answer {
	sign := negative(a) != negative(b)
	switch {
	case a != a || b != b || c != c:
		return is(nan)
	case infinite(a) && b == 0 || a == 0 && infinite(b):
		return is(nan)
	case (infinite(a) || infinite(b)) && infinite(c) && sign != negative(c):
		return is(nan)
	case infinite(a) || infinite(b):
		return is(signed(sign, inf))
	case infinite(c):
		return is(c)
	}
	v := new(big.Rat).Mul(exact(a), exact(b))
	nought := v.Sign() == 0
	v.Add(v, exact(c))
	if v.Sign() == 0 {
		return is(signed(c == 0 && negative(c) && nought && sign, 0))
	}
	return nearest(v)
}

// What the program answers.
type twoOf struct {
	name string
	call func(a, b float64) (float64, api.Errno)
	want func(a, b float64) answer
}

func twos() []twoOf {
	return []twoOf{{"Add", table.Add, add}, {"Sub", table.Sub, sub}, {"Mul", table.Mul, mul}, {"Div", table.Div, div}, {"Mod", table.Mod, mod}, {"Power", table.Power, power}}
}

type oneOf struct {
	name string
	call func(a float64) (float64, api.Errno)
	want func(a float64) answer
}

func ones() []oneOf {
	return []oneOf{{"Root", table.Root, root}, {"Percent", table.Percent, percent}}
}

// P7.1: every row, of all kinds of operands.

func TestEveryRow(t *testing.T) {
	all := edges()
	for _, op := range twos() {
		for _, a := range all {
			for _, b := range all {
				if got, want := of(op.call(a, b)), op.want(a, b); !got.same(want) {
					t.Errorf("%s(%x, %x): %x %d, not %x %d", op.name, a, b, got.x, got.err, want.x, want.err)
				}
			}
		}
	}
	for _, op := range ones() {
		for _, a := range all {
			if got, want := of(op.call(a)), op.want(a); !got.same(want) {
				t.Errorf("%s(%x): %x %d, not %x %d", op.name, a, got.x, got.err, want.x, want.err)
			}
		}
	}
}

func TestSomeNumbers(t *testing.T) {
	r := rand.New(rand.NewSource(71))
	for range 20000 {
		a, b := some(r), some(r)
		for _, op := range twos() {
			if got, want := of(op.call(a, b)), op.want(a, b); !got.same(want) {
				t.Fatalf("%s(%x, %x): %x %d, not %x %d", op.name, a, b, got.x, got.err, want.x, want.err)
			}
		}
		for _, op := range ones() {
			if got, want := of(op.call(a)), op.want(a); !got.same(want) {
				t.Fatalf("%s(%x): %x %d, not %x %d", op.name, a, got.x, got.err, want.x, want.err)
			}
		}
	}
}

func TestNearNumbers(t *testing.T) {
	// Both of one magnitude: sums that are much less than both, quotients near to 1, what is left near to nought and to b.
	r := rand.New(rand.NewSource(72))
	for range 20000 {
		a := some(r)
		b := math.Float64frombits(math.Float64bits(a) + uint64(r.Intn(9)) - 4)
		if r.Intn(2) == 0 {
			b = math.Ldexp(b, r.Intn(120)-60)
		}
		if b-b != 0 {
			continue
		}
		for _, op := range twos()[:5] {
			for _, p := range [][2]float64{{a, b}, {a, -b}, {-a, b}, {-a, -b}} {
				if got, want := of(op.call(p[0], p[1])), op.want(p[0], p[1]); !got.same(want) {
					t.Fatalf("%s(%x, %x): %x %d, not %x %d", op.name, p[0], p[1], got.x, got.err, want.x, want.err)
				}
			}
		}
	}
}

func TestNaNComesFirst(t *testing.T) {
	others := append(edges(), 0.5, -0.5, 65, 1e300)
	for _, n := range nans() {
		for _, x := range others {
			for _, op := range twos() {
				if got := of(op.call(n, x)); !got.same(is(nan)) {
					t.Errorf("%s(NaN, %x): %x %d", op.name, x, got.x, got.err)
				}
				if got := of(op.call(x, n)); !got.same(is(nan)) {
					t.Errorf("%s(%x, NaN): %x %d", op.name, x, got.x, got.err)
				}
			}
			for _, y := range []float64{nan, inf, -inf, 0, minus0, 1, -1, least, greatest} {
				for _, l := range [][3]float64{{n, x, y}, {x, n, y}, {x, y, n}} {
					if got := of(table.Fused(l[0], l[1], l[2])); !got.same(is(nan)) {
						t.Errorf("Fused(%x): %x %d", l, got.x, got.err)
					}
				}
			}
		}
		for _, op := range ones() {
			if got := of(op.call(n)); !got.same(is(nan)) {
				t.Errorf("%s(NaN): %x %d", op.name, got.x, got.err)
			}
		}
		if got := of(table.Neg(n), 0); !got.same(is(nan)) {
			t.Errorf("Neg(NaN): %x", got.x)
		}
	}
}

// A call of two and what the document asks.
type row struct {
	a, b float64
	want answer
}

func hold(t *testing.T, name string, call func(a, b float64) (float64, api.Errno), rows []row) {
	t.Helper()
	for _, c := range rows {
		if got := of(call(c.a, c.b)); !got.same(c.want) {
			t.Errorf("%s(%x, %x): %x %d, not %x %d", name, c.a, c.b, got.x, got.err, c.want.x, c.want.err)
		}
	}
}

func TestAdd(t *testing.T) {
	hold(t, "Add", table.Add, []row{
		{0.1, 0.2, is(0x1.3333333333334p-2)},
		{minus0, minus0, is(minus0)}, {minus0, 0, is(0)}, {0, minus0, is(0)}, {0, 0, is(0)},
		{1, -1, is(0)}, {-1, 1, is(0)}, {least, -least, is(0)}, {-greatest, greatest, is(0)},
		{minus0, 5, is(5)}, {-5, 0, is(-5)}, {minus0, -least, is(-least)},
		{inf, -inf, is(nan)}, {-inf, inf, is(nan)}, {inf, inf, is(inf)}, {-inf, -inf, is(-inf)},
		{inf, -greatest, is(inf)}, {-least, -inf, is(-inf)}, {inf, minus0, is(inf)},
		{1, 0x1p-53, is(1)}, {1, next(0x1p-53), is(1 + unit)}, {1, prev(0x1p-53), is(1)},
		{1 + unit, 0x1p-53, is(1 + 2*unit)}, {1 + unit, prev(0x1p-53), is(1 + unit)},
		{0x1p53, 1, is(0x1p53)}, {0x1p53 + 2, 1, is(0x1p53 + 4)}, {-0x1p53 - 2, -1, is(-0x1p53 - 4)},
		{normal, -least, is(normal - least)}, {3 * least, 5 * least, is(8 * least)}, {-prev(normal), -least, is(-normal)},
		{greatest, greatest, bad(api.ErrOver)}, {-greatest, -greatest, bad(api.ErrOver)},
		{greatest, overHalf, bad(api.ErrOver)}, {greatest, prev(overHalf), is(greatest)},
		{-overHalf, -greatest, bad(api.ErrOver)}, {-greatest, -prev(overHalf), is(-greatest)},
		{greatest, least, is(greatest)}, {0x1p1023, 0x1p1023, bad(api.ErrOver)},
	})
	hold(t, "Sub", table.Sub, []row{
		{inf, inf, is(nan)}, {inf, -inf, is(inf)}, {-inf, 1, is(-inf)}, {1, inf, is(-inf)},
		{minus0, 0, is(minus0)}, {0, 0, is(0)}, {0, minus0, is(0)}, {minus0, minus0, is(0)}, {1, 1, is(0)},
		{0.3, 0.1, is(0x1.9999999999999p-3)}, {1, next(0x1p-54), is(prev(1))}, {1, 0x1p-54, is(1)},
		{-greatest, overHalf, bad(api.ErrOver)}, {-greatest, prev(overHalf), is(-greatest)},
	})
}

func TestMul(t *testing.T) {
	hold(t, "Mul", table.Mul, []row{
		{3, 5, is(15)}, {-0.1, 3, is(-0x1.3333333333334p-2)},
		{minus0, 5, is(minus0)}, {5, minus0, is(minus0)}, {0, -5, is(minus0)}, {minus0, -5, is(0)}, {minus0, minus0, is(0)}, {0, minus0, is(minus0)},
		{0, inf, is(nan)}, {-inf, minus0, is(nan)},
		{inf, -least, is(-inf)}, {-least, -inf, is(inf)}, {inf, inf, is(inf)}, {-inf, inf, is(-inf)},
		{1 + unit, 1.5, is(1.5 + 2*unit)}, {1 + 3*unit, 1.5, is(1.5 + 4*unit)}, // halves
		{least, 0.5, is(0)}, {-least, 0.5, is(minus0)}, {least, -0.5, is(minus0)}, {-least, -0.5, is(0)},
		{least, next(0.5), is(least)}, {-least, next(0.5), is(-least)}, {least, prev(0.5), is(0)},
		{3 * least, 0.5, is(2 * least)}, {5 * least, 0.5, is(2 * least)}, {5 * least, next(0.5), is(3 * least)}, {3 * least, prev(0.5), is(least)},
		{least, least, is(0)}, {least, -least, is(minus0)},
		{normal, prev(1), is(normal)}, {normal, prev(prev(1)), is(prev(normal))},
		{greatest, 1, is(greatest)}, {greatest, next(1), bad(api.ErrOver)}, {greatest, -2, bad(api.ErrOver)},
		{0x1p1023, prev(2), is(greatest)}, {0x1p1023, 2, bad(api.ErrOver)}, {-0x1p512, 0x1p512, bad(api.ErrOver)},
		{(0x1p27 - 1) * 0x1p485, (0x1p27 + 1) * 0x1p485, bad(api.ErrOver)}, {(0x1p27 - 1) * 0x1p485, prev((0x1p27 + 1) * 0x1p485), is(prev(greatest))},
	})
}

func TestDiv(t *testing.T) {
	hold(t, "Div", table.Div, []row{
		{1, 3, is(0x1.5555555555555p-2)}, {-1, 10, is(-0.1)}, {6, 3, is(2)},
		{1, 0, bad(api.ErrDiv)}, {0, 0, bad(api.ErrDiv)}, {-1, minus0, bad(api.ErrDiv)}, {inf, 0, bad(api.ErrDiv)}, {-inf, minus0, bad(api.ErrDiv)},
		{nan, 0, is(nan)}, {nan, minus0, is(nan)},
		{inf, inf, is(nan)}, {inf, -inf, is(nan)}, {inf, -2, is(-inf)}, {-inf, -least, is(inf)},
		{0, -2, is(minus0)}, {minus0, -2, is(0)}, {minus0, 2, is(minus0)}, {0, -inf, is(minus0)}, {minus0, -inf, is(0)},
		{-1, inf, is(minus0)}, {greatest, -inf, is(minus0)}, {-least, -inf, is(0)},
		{least, 2, is(0)}, {-least, 2, is(minus0)}, {least, prev(2), is(least)}, {least, -next(2), is(minus0)},
		{3 * least, 2, is(2 * least)}, {5 * least, 2, is(2 * least)}, {5 * least, prev(2), is(3 * least)},
		{least, greatest, is(0)}, {-least, greatest, is(minus0)},
		{greatest, 1, is(greatest)}, {greatest, prev(1), bad(api.ErrOver)}, {prev(greatest), prev(1), is(greatest)},
		{1, least, bad(api.ErrOver)}, {-greatest, least, bad(api.ErrOver)}, {normal, least, is(0x1p52)},
	})
	for _, c := range []struct{ a, want float64 }{{7, 0x1.1eb851eb851ecp-4}, {100, 1}, {minus0, minus0}, {-inf, -inf}, {50 * least, 0}, {-50 * least, minus0}, {51 * least, least}, {150 * least, 2 * least}, {greatest, greatest / 100}} {
		if got := of(table.Percent(c.a)); !got.same(is(c.want)) {
			t.Errorf("Percent(%x): %x %d", c.a, got.x, got.err)
		}
	}
}

func TestMod(t *testing.T) {
	hold(t, "Mod", table.Mod, []row{
		{5, 3, is(2)}, {-5, 3, is(1)}, {5, -3, is(-1)}, {-5, -3, is(-2)},
		{6, 3, is(0)}, {-6, 3, is(0)}, {6, -3, is(minus0)}, {-6, -3, is(minus0)},
		{0, 3, is(0)}, {minus0, 3, is(0)}, {0, -3, is(minus0)}, {minus0, -3, is(minus0)},
		{2, 3, is(2)}, {-2, 3, is(1)}, {2, -3, is(-1)}, {3, 3, is(0)}, {5.5, 0.25, is(0)}, {0.3, 0.1, is(0x1.9999999999998p-4)},
		{1, 0, bad(api.ErrDiv)}, {inf, 0, bad(api.ErrDiv)}, {0, minus0, bad(api.ErrDiv)}, {nan, 0, is(nan)},
		{inf, 2, is(nan)}, {-inf, inf, is(nan)}, {inf, -inf, is(nan)},
		{-1, inf, is(inf)}, {1, inf, is(1)}, {1, -inf, is(-inf)}, {-1, -inf, is(-1)}, {least, inf, is(least)}, {-greatest, inf, is(inf)},
		{minus0, inf, is(minus0)}, {0, -inf, is(0)}, {0, inf, is(0)},
		{-least, 1, is(1)}, {least, -1, is(-1)}, {-0x1p-54, 1, is(1)}, {-next(0x1p-54), 1, is(prev(1))}, {-least, greatest, is(greatest)}, {least, -greatest, is(-greatest)},
		{greatest, 3, is(2)}, {-greatest, 3, is(1)}, {greatest, -3, is(-1)}, {1e308, 10, is(6)}, {greatest, least, is(0)}, {-greatest, -least, is(minus0)},
		{greatest, 3 * least, is(2 * least)}, {-greatest, 3 * least, is(least)}, {greatest, 0x1p1023, is(0x1.ffffffffffffep1022)},
		{0x1p1000, 7, is(2)}, {5 * least, 3 * least, is(2 * least)}, {-5 * least, 3 * least, is(least)},
	})
}

func TestPower(t *testing.T) {
	hold(t, "Power", table.Power, []row{
		{2, 10, is(1024)}, {-2, 3, is(-8)}, {-2, 4, is(16)}, {-2, -3, is(-0.125)}, {-2, -4, is(0.0625)}, {10, -2, is(0.01)}, {0.1, 2, is(0x1.47ae147ae147cp-7)}, {1.5, 1, is(1.5)}, {-1.5, 1, is(-1.5)}, {3, -1, is(0x1.5555555555555p-2)},
		{0, 0, is(1)}, {minus0, minus0, is(1)}, {inf, 0, is(1)}, {-inf, minus0, is(1)}, {-2, 0, is(1)}, {least, 0, is(1)}, {nan, 0, is(nan)},
		{2, 0.5, is(math.Sqrt2)}, {-1, 0.5, bad(api.ErrNeg)}, {-inf, 0.5, bad(api.ErrNeg)}, {minus0, 0.5, is(minus0)}, {inf, 0.5, is(inf)}, {nan, 0.5, is(nan)},
		{2, -0.5, bad(api.ErrRange)}, {0, -0.5, bad(api.ErrRange)}, {2, 1.5, bad(api.ErrRange)}, {2, next(0.5), bad(api.ErrRange)}, {2, prev(1), bad(api.ErrRange)}, {2, least, bad(api.ErrRange)}, {nan, 1.5, is(nan)},
		{2, 64, is(0x1p64)}, {2, 65, bad(api.ErrRange)}, {2, -64, is(0x1p-64)}, {2, -65, bad(api.ErrRange)}, {2, 64.5, bad(api.ErrRange)}, {2, next(64), bad(api.ErrRange)}, {1, greatest, bad(api.ErrRange)}, {1, -greatest, bad(api.ErrRange)},
		{2, inf, bad(api.ErrRange)}, {2, -inf, bad(api.ErrRange)}, {0, -inf, bad(api.ErrRange)}, {0, -65, bad(api.ErrRange)}, {inf, 65, bad(api.ErrRange)}, {1, nan, is(nan)},
		{minus0, -3, bad(api.ErrDiv)}, {0, -1, bad(api.ErrDiv)}, {0, -64, bad(api.ErrDiv)}, {minus0, -2, bad(api.ErrDiv)},
		{0, 3, is(0)}, {minus0, 3, is(minus0)}, {minus0, 2, is(0)}, {minus0, 63, is(minus0)}, {minus0, 64, is(0)},
		{inf, 1, is(inf)}, {-inf, 1, is(-inf)}, {-inf, 2, is(inf)}, {-inf, 63, is(-inf)}, {inf, -1, is(0)}, {-inf, -3, is(minus0)}, {-inf, -2, is(0)}, {-inf, -64, is(0)},
		{94906267, 2, is(9007199515875288)}, {94906269, 2, is(9007199895500360)}, {-94906267, 2, is(9007199515875288)}, {208067, 3, is(9007610865436764)}, {-208067, 3, is(-9007610865436764)}, // halves: 54 bits, and odd
		{0x1p16, 64, bad(api.ErrOver)}, {prev(0x1p16), 64, is(0x1.fffffffffffcp1023)}, {-0x1p-16, -64, bad(api.ErrOver)}, {greatest, 1, is(greatest)}, {greatest, 2, bad(api.ErrOver)}, {-greatest, 63, bad(api.ErrOver)}, {least, -1, bad(api.ErrOver)}, {-least, -63, bad(api.ErrOver)},
		{greatest, -1, is(0x1p-1024)}, {greatest, -2, is(0)}, {-greatest, -3, is(minus0)}, {-greatest, -64, is(0)}, {least, 1, is(least)}, {-least, 1, is(-least)}, {least, 2, is(0)}, {-least, 63, is(minus0)}, {-least, 64, is(0)},
		{0x1p-537, 2, is(least)}, {prev(0x1p-537), 2, is(least)}, {0x1p-25, 43, is(0)}, {-0x1p-25, 43, is(minus0)}, {next(0x1p-25), 43, is(least)}, {-next(0x1p-25), 43, is(-least)}, // 2^-1075: half of the least one
		{3, 64, is(0x1.5ab6a57c7bc99p101)}, {1.1, 64, is(0x1.bdcaa43ae86e3p8)}, {1.1, -64, is(0x1.2605541757c2bp-9)},
	})
}

func TestEveryExponent(t *testing.T) {
	for _, a := range []float64{nan, inf, -inf, 0, minus0, 1, -1, 3, -10, 0.1, 1.1, -prev(1), next(1), 0x1p-17, 1e5, -12345.678, 0x1.8p-20, normal, -3 * least, greatest} {
		for b := -66; b <= 66; b++ {
			for _, x := range []float64{float64(b), float64(b) + 0.5, next(float64(b))} {
				if got, want := of(table.Power(a, x)), power(a, x); !got.same(want) {
					t.Errorf("Power(%x, %x): %x %d, not %x %d", a, x, got.x, got.err, want.x, want.err)
				}
			}
		}
	}
}

func TestPowerOfSome(t *testing.T) {
	r := rand.New(rand.NewSource(73))
	for range 6000 {
		// An exponent that is not sure to leave the numbers.
		b := float64(1 + r.Intn(64))
		a := math.Ldexp(1+r.Float64(), int((r.Float64()*2200-1130)/b))
		if r.Intn(2) == 0 {
			a = -a
		}
		if r.Intn(2) == 0 {
			b = -b
		}
		if got, want := of(table.Power(a, b)), power(a, b); !got.same(want) {
			t.Fatalf("Power(%x, %x): %x %d, not %x %d", a, b, got.x, got.err, want.x, want.err)
		}
	}
}

func TestRoot(t *testing.T) {
	for _, c := range []struct {
		a    float64
		want answer
	}{
		{2, is(0x1.6a09e667f3bcdp0)}, {4, is(2)}, {0.25, is(0.5)}, {100, is(10)}, {0x1p-1074, is(0x1p-537)}, {0x1p-1072, is(0x1p-536)},
		{0, is(0)}, {minus0, is(minus0)}, {inf, is(inf)}, {-inf, bad(api.ErrNeg)}, {-1, bad(api.ErrNeg)}, {-least, bad(api.ErrNeg)}, {-greatest, bad(api.ErrNeg)},
		{2 * least, is(0x1.6a09e667f3bcdp-537)}, {3 * least, is(0x1.bb67ae8584caap-537)}, {9 * least, is(3 * 0x1p-537)}, {prev(normal), is(prev(0x1p-511))}, {normal, is(0x1p-511)},
		{prev(1), is(prev(1))}, {next(1), is(1)}, {next(next(1)), is(next(1))}, {greatest, is(prev(0x1p512))}, {0x1p1022, is(0x1p511)},
	} {
		if got := of(table.Root(c.a)); !got.same(c.want) {
			t.Errorf("Root(%x): %x %d, not %x %d", c.a, got.x, got.err, c.want.x, c.want.err)
		}
	}
	r := rand.New(rand.NewSource(74))
	for range 50000 {
		a := math.Abs(some(r))
		if got, want := of(table.Root(a)), root(a); !got.same(want) {
			t.Fatalf("Root(%x): %x %d, not %x %d", a, got.x, got.err, want.x, want.err)
		}
	}
}

func TestNeg(t *testing.T) {
	for _, c := range [][2]float64{{0, minus0}, {minus0, 0}, {1, -1}, {-least, least}, {greatest, -greatest}, {inf, -inf}, {-inf, inf}, {nan, nan}} {
		if got := of(table.Neg(c[0]), 0); !got.same(is(c[1])) {
			t.Errorf("Neg(%x): %x", c[0], got.x)
		}
	}
}

func TestFused(t *testing.T) {
	for _, c := range []struct {
		a, b, c float64
		want    answer
	}{
		{2, 3, 4, is(10)}, {0x1p53 + 2, 0x1p53 - 2, -0x1p106, is(-4)}, {0.1, 10, -1, is(0x1p-54)},
		{1 + 0x1p-27, 1 + 0x1p-27, 0x1p-53, is(1 + 0x1p-26 + unit)}, // two roundings would tell 1 + 2^-26
		{inf, 0, 1, is(nan)}, {minus0, -inf, 1, is(nan)}, {0, inf, -inf, is(nan)}, {inf, 1, -inf, is(nan)}, {-2, inf, inf, is(nan)}, {-inf, -inf, -inf, is(nan)},
		{inf, 1, inf, is(inf)}, {inf, -1, -inf, is(-inf)}, {inf, -least, greatest, is(-inf)}, {-2, -inf, minus0, is(inf)}, {inf, inf, -1, is(inf)},
		{1, 2, -inf, is(-inf)}, {greatest, greatest, -inf, is(-inf)}, {greatest, -greatest, inf, is(inf)}, {0, 0, inf, is(inf)}, {least, least, -inf, is(-inf)},
		{1, 1, -1, is(0)}, {-1, 1, 1, is(0)}, {greatest, -1, greatest, is(0)}, {0.5, 2 * least, -least, is(0)}, {-0.5, 2 * least, least, is(0)},
		{0, 1, 0, is(0)}, {minus0, 1, minus0, is(minus0)}, {0, -1, minus0, is(minus0)}, {minus0, -1, minus0, is(0)}, {0, 1, minus0, is(0)}, {minus0, 1, 0, is(0)}, {minus0, minus0, minus0, is(0)}, {0, minus0, minus0, is(minus0)}, {0, minus0, 0, is(0)},
		{minus0, 5, 7, is(7)}, {0, 5, -least, is(-least)},
		{least, least, 0, is(0)}, {least, least, minus0, is(0)}, {-least, least, 0, is(minus0)}, {-least, least, minus0, is(minus0)}, {least, -0.5, 0, is(minus0)}, {-least, 0.5, minus0, is(minus0)},
		{least, 0.5, least, is(2 * least)}, {least, 0.5, -least, is(minus0)}, {least, -0.5, least, is(0)}, {least, next(0.5), -least, is(minus0)}, {least, prev(0.5), -least, is(-least)}, {least, 0.5, 2 * least, is(2 * least)}, {-least, 0.25, least, is(least)}, {least, -0.75, least, is(0)},
		{least, least, 1, is(1)}, {least, least, 1 + unit, is(1 + unit)}, {1, 0x1p-53, 1, is(1)}, {1 + unit, 0x1p-53, 1, is(1 + unit)}, {1 - unit, 0x1p-53, 1, is(1)}, {-least, least, -least, is(-least)},
		{greatest, 2, -greatest, is(greatest)}, {-greatest, 2, greatest, is(-greatest)}, {greatest, 2, 0, bad(api.ErrOver)}, {greatest, greatest, -greatest, bad(api.ErrOver)}, {-greatest, greatest, greatest, bad(api.ErrOver)},
		{greatest, 1, overHalf, bad(api.ErrOver)}, {greatest, 1, prev(overHalf), is(greatest)}, {0x1p1023, 2, -overHalf, bad(api.ErrOver)}, {0x1p1023, 2, -next(overHalf), is(greatest)}, {0x1p1023, 2, -prev(overHalf), bad(api.ErrOver)}, {-0x1p1023, 2, next(overHalf), is(-greatest)},
		{0x1p-537, 0x1p-537, -least, is(0)}, {0x1p-538, 0x1p-537, 0, is(0)}, {next(0x1p-538), 0x1p-537, 0, is(least)}, {-0x1p-538, 0x1p-537, 0, is(minus0)},
		{normal, prev(1), 0, is(normal)}, {normal, prev(1), -least, is(normal - 2*least)}, // two roundings would tell normal - least
	} {
		if got := of(table.Fused(c.a, c.b, c.c)); !got.same(c.want) {
			t.Errorf("Fused(%x, %x, %x): %x %d, not %x %d", c.a, c.b, c.c, got.x, got.err, c.want.x, c.want.err)
		}
	}
}

func TestFusedOfAllKinds(t *testing.T) {
	var all []float64
	for _, x := range []float64{nan, inf, 0, least, 3 * least, 0x1p-537, prev(normal), normal, 0x1p-53, 0.1, 0.5, 1, next(1), 3, 0x1p512, overHalf, 0x1p1023, greatest} {
		all = append(all, x, -x)
	}
	for _, a := range all {
		for _, b := range all {
			for _, c := range all {
				if got, want := of(table.Fused(a, b, c)), fused(a, b, c); !got.same(want) {
					t.Errorf("Fused(%x, %x, %x): %x %d, not %x %d", a, b, c, got.x, got.err, want.x, want.err)
				}
			}
		}
	}
}

func TestFusedOfSome(t *testing.T) {
	r := rand.New(rand.NewSource(75))
	for range 60000 {
		a, b := some(r), some(r)
		c := some(r)
		if r.Intn(3) > 0 {
			// Near to the product, so that it is taken away; or much less, just beside its last bits.
			c = -a * b * (1 + float64(r.Intn(9)-4)*unit) * math.Ldexp(1, -(r.Intn(2)*r.Intn(110)))
			if c-c != 0 {
				continue
			}
		}
		if got, want := of(table.Fused(a, b, c)), fused(a, b, c); !got.same(want) {
			t.Fatalf("Fused(%x, %x, %x): %x %d, not %x %d", a, b, c, got.x, got.err, want.x, want.err)
		}
	}
}

// P7.2

func TestSplit(t *testing.T) {
	for _, c := range []struct{ a, b, sum, rest float64 }{
		{1, 0x1p-60, 1, 0x1p-60}, {0x1p-60, 1, 1, 0x1p-60}, {0.1, 0.2, 0x1.3333333333334p-2, -0x1p-55}, {-0.1, -0.2, -0x1.3333333333334p-2, 0x1p-55},
		{1, 2, 3, 0}, {1, -1, 0, 0}, {-1, 1, 0, 0}, {0, 0, 0, 0}, {minus0, 0, 0, 0}, {0, minus0, 0, 0}, {minus0, minus0, minus0, 0}, {5, minus0, 5, 0}, {minus0, -5, -5, 0},
		{1, least, 1, least}, {-1, least, -1, least}, {least, -greatest, -greatest, least}, {normal, 3 * least, normal + 3*least, 0}, {0x1p-1000, -3 * least, 0x1p-1000, -3 * least}, {least, least, 2 * least, 0},
		{1, 0x1p-53, 1, 0x1p-53}, {1, -0x1p-54, 1, -0x1p-54}, {1 + unit, 0x1p-53, 1 + 2*unit, -0x1p-53}, {1, next(0x1p-53), 1 + unit, next(0x1p-53) - unit},
		{greatest, prev(overHalf), greatest, prev(overHalf)}, {greatest, -greatest, 0, 0}, {prev(greatest), overHalf, prev(greatest), overHalf}, {-greatest, overHalf, -prev(greatest), -overHalf},
	} {
		sum, rest, err := table.Split(c.a, c.b)
		if !of(sum, err).same(is(c.sum)) || !of(rest, 0).same(is(c.rest)) {
			t.Errorf("Split(%x, %x): %x %x %d, not %x %x", c.a, c.b, sum, rest, err, c.sum, c.rest)
		}
	}
}

func TestSplitRefused(t *testing.T) {
	refused := func(a, b float64, want api.Errno) {
		sum, rest, err := table.Split(a, b)
		if !of(sum, err).same(bad(want)) || math.Float64bits(rest) != 0 {
			t.Errorf("Split(%x, %x): %x %x %d, not error %d", a, b, sum, rest, err, want)
		}
	}
	for _, n := range append(nans(), inf, -inf) {
		for _, x := range append(edges(), n) {
			refused(n, x, api.ErrNaN)
			refused(x, n, api.ErrNaN)
		}
	}
	for _, p := range [][2]float64{{greatest, greatest}, {greatest, overHalf}, {overHalf, greatest}, {-greatest, -overHalf}, {0x1p1023, 0x1p1023}} {
		refused(p[0], p[1], api.ErrOver)
	}
}

func checkSplit(t *testing.T, a, b float64) {
	sum, rest, err := table.Split(a, b)
	want := add(a, b)
	if !of(sum, err).same(want) {
		t.Fatalf("Split(%x, %x): %x %d, not %x %d", a, b, sum, err, want.x, want.err)
	}
	left := 0.0
	if err == api.OK {
		v := new(big.Rat).Add(exact(a), exact(b))
		x, is := v.Sub(v, exact(want.x)).Float64()
		if !is {
			t.Fatalf("Split(%x, %x): no number is the rest", a, b)
		}
		left = x
	}
	if math.Float64bits(rest) != math.Float64bits(left) {
		t.Fatalf("Split(%x, %x): rest %x, not %x", a, b, rest, left)
	}
}

func TestSplitOfSome(t *testing.T) {
	r := rand.New(rand.NewSource(76))
	l := finites(r, 200)
	for _, a := range l {
		for _, b := range l {
			checkSplit(t, a, b)
		}
	}
	for range 30000 {
		a := some(r)
		b := math.Ldexp(a*(1+r.Float64()), r.Intn(120)-60)
		if b-b == 0 {
			checkSplit(t, a, b)
			checkSplit(t, a, -b)
		}
	}
}

// P7.3

// places rounds by the document's words: to the whole multiples of 10^-n, then to the nearest number.
func places(a float64, n, mode int) answer {
	ten := new(big.Rat).SetInt(new(big.Int).Exp(big.NewInt(10), big.NewInt(int64(max(n, -n))), nil))
	if n < 0 {
		ten.Inv(ten)
	}
	v := new(big.Rat).Mul(exact(a), ten)
	low := new(big.Int).Div(v.Num(), v.Denom())
	left := new(big.Rat).Sub(v, new(big.Rat).SetInt(low))
	odd := low.Bit(0) == 1
	middle := left.Cmp(big.NewRat(1, 2))
	up := false
	switch mode {
	case api.Even:
		up = middle > 0 || middle == 0 && odd
	case api.Away:
		up = middle > 0 || middle == 0 && a > 0
	case api.Up:
		up = true
	case api.Zero:
		up = a < 0
	case api.Odd:
		up = !odd
	}
	if up && left.Sign() != 0 {
		low.Add(low, big.NewInt(1))
	}
	if low.Sign() == 0 {
		return is(signed(negative(a), 0))
	}
	return nearest(v.Quo(new(big.Rat).SetInt(low), ten))
}

func TestPlaces(t *testing.T) {
	for _, c := range []struct {
		a       float64
		n, mode int
		want    answer
	}{
		{2.675, 2, api.Away, is(2.67)}, {-0.004, 2, api.Even, is(minus0)}, {1.5e300, 0, api.Up, is(1.5e300)},
		{2.5, 0, api.Even, is(2)}, {2.5, 0, api.Away, is(3)}, {2.5, 0, api.Up, is(3)}, {2.5, 0, api.Down, is(2)}, {2.5, 0, api.Zero, is(2)}, {2.5, 0, api.Odd, is(3)},
		{-2.5, 0, api.Even, is(-2)}, {-2.5, 0, api.Away, is(-3)}, {-2.5, 0, api.Up, is(-2)}, {-2.5, 0, api.Down, is(-3)}, {-2.5, 0, api.Zero, is(-2)}, {-2.5, 0, api.Odd, is(-3)},
		{0.25, 1, api.Even, is(0.2)}, {0.25, 1, api.Odd, is(0.3)}, {0.35, 1, api.Even, is(0.3)}, {0.1, 1, api.Up, is(0.2)}, {0.1, 1, api.Down, is(0.1)}, {0.1, 55, api.Zero, is(0.1)},
		{25, -1, api.Even, is(20)}, {35, -1, api.Even, is(40)}, {25, -1, api.Away, is(30)}, {25, -1, api.Up, is(30)}, {-25, -1, api.Down, is(-30)}, {25, -1, api.Odd, is(30)}, {4, -1, api.Even, is(0)}, {-5, -1, api.Even, is(minus0)}, {-5, -1, api.Away, is(-10)},
		{0, 0, api.Up, is(0)}, {minus0, 0, api.Up, is(minus0)}, {minus0, 400, api.Down, is(minus0)}, {0, -400, api.Odd, is(0)}, {minus0, -400, api.Odd, is(minus0)},
		{-0.5, 0, api.Even, is(minus0)}, {-0.5, 0, api.Up, is(minus0)}, {-0.5, 0, api.Zero, is(minus0)}, {0.5, 0, api.Down, is(0)}, {-0.5, 0, api.Down, is(-1)}, {-least, 0, api.Up, is(minus0)}, {-least, 0, api.Down, is(-1)}, {least, 0, api.Odd, is(1)}, {least, 0, api.Even, is(0)}, {least, -1, api.Up, is(10)}, {least, 1, api.Up, is(0.1)},
		{least, 400, api.Even, is(least)}, {-least, 400, api.Zero, is(-least)}, {least, 324, api.Zero, is(least)}, {least, 323, api.Zero, is(0)}, {-least, 323, api.Zero, is(minus0)}, {least, 323, api.Up, is(2 * least)},
		{greatest, 400, api.Up, is(greatest)}, {greatest, 0, api.Up, is(greatest)}, {greatest, -1, api.Up, is(greatest)}, {greatest, -400, api.Down, is(0)}, {-greatest, -400, api.Zero, is(minus0)}, {-greatest, -400, api.Even, is(minus0)},
		{greatest, -400, api.Up, bad(api.ErrOver)}, {-greatest, -400, api.Down, bad(api.ErrOver)}, {1, -400, api.Odd, bad(api.ErrOver)}, {-1, -400, api.Odd, bad(api.ErrOver)}, {least, -400, api.Up, bad(api.ErrOver)}, {least, -400, api.Away, is(0)},
		{greatest, -308, api.Even, bad(api.ErrOver)}, {greatest, -308, api.Zero, is(1e308)}, {-greatest, -308, api.Away, bad(api.ErrOver)}, {1e308, -308, api.Up, bad(api.ErrOver)}, {1e308, -308, api.Down, is(1e308)}, {greatest, -308, api.Odd, is(1e308)},
	} {
		if got := of(table.Places(c.a, c.n, c.mode)); !got.same(c.want) {
			t.Errorf("Places(%x, %d, %d): %x %d, not %x %d", c.a, c.n, c.mode, got.x, got.err, c.want.x, c.want.err)
		}
	}
}

func TestPlacesOfSome(t *testing.T) {
	r := rand.New(rand.NewSource(77))
	l := finites(r, 120)
	for _, n := range []int{-400, -399, -309, -308, -100, -16, -2, -1, 0, 1, 2, 3, 15, 17, 30, 300, 323, 324, 399, 400} {
		for mode := api.Even; mode <= api.Odd; mode++ {
			for _, a := range l {
				if got, want := of(table.Places(a, n, mode)), places(a, n, mode); !got.same(want) {
					t.Fatalf("Places(%x, %d, %d): %x %d, not %x %d", a, n, mode, got.x, got.err, want.x, want.err)
				}
			}
		}
	}
	for range 10000 {
		a, n, mode := float64(r.Intn(200001)-100000)/16, r.Intn(9)-4, 1+r.Intn(6)
		if got, want := of(table.Places(a, n, mode)), places(a, n, mode); !got.same(want) {
			t.Fatalf("Places(%x, %d, %d): %x %d, not %x %d", a, n, mode, got.x, got.err, want.x, want.err)
		}
	}
}

func TestPlacesRefused(t *testing.T) {
	strange := append(nans(), inf, -inf)
	for _, a := range append(strange, edges()...) {
		for _, n := range []int{-401, 401, math.MinInt, math.MaxInt, -20001, 20000, 1 << 32} {
			if got := of(table.Places(a, n, api.Even)); !got.same(bad(api.ErrArg)) {
				t.Errorf("Places(%x, %d, Even): %x %d", a, n, got.x, got.err)
			}
		}
		for _, mode := range []int{0, 7, -1, math.MinInt, math.MaxInt, 1<<32 + 1} {
			for _, n := range []int{-400, 0, 400, 401} {
				if got := of(table.Places(a, n, mode)); !got.same(bad(api.ErrArg)) {
					t.Errorf("Places(%x, %d, %d): %x %d", a, n, mode, got.x, got.err)
				}
			}
		}
	}
	for _, a := range strange {
		for _, n := range []int{-400, -1, 0, 1, 400} {
			for mode := api.Even; mode <= api.Odd; mode++ {
				if got := of(table.Places(a, n, mode)); !got.same(bad(api.ErrNaN)) {
					t.Errorf("Places(%x, %d, %d): %x %d", a, n, mode, got.x, got.err)
				}
			}
		}
	}
}

// P7.4

func TestCompared(t *testing.T) {
	// They stand in this order; those of one place are equal.
	stand := [][]float64{{-inf}, {-greatest}, {prev(-1)}, {-1}, {-normal}, {-prev(normal)}, {-least}, {minus0, 0}, {least}, {prev(normal)}, {normal}, {prev(1)}, {1}, {next(1)}, {0x1p53}, {greatest}, {inf}}
	for i, p := range stand {
		for j, q := range stand {
			for _, a := range p {
				for _, b := range q {
					if less, equal := table.Less(a, b), table.Equal(a, b); less != (i < j) || equal != (i == j) {
						t.Errorf("%x and %x: Less %v, Equal %v", a, b, less, equal)
					}
				}
			}
		}
	}
	for _, n := range nans() {
		for _, x := range append(edges(), n) {
			if table.Less(n, x) || table.Less(x, n) || table.Equal(n, x) || table.Equal(x, n) {
				t.Errorf("the NaN and %x", x)
			}
		}
	}
}

// P7.5

func TestOrderOfOperands(t *testing.T) {
	r := rand.New(rand.NewSource(78))
	l := append(edges(), finites(r, 160)...)
	for _, a := range l {
		for _, b := range l {
			if !of(table.Add(a, b)).same(of(table.Add(b, a))) {
				t.Errorf("Add(%x, %x)", a, b)
			}
			if !of(table.Mul(a, b)).same(of(table.Mul(b, a))) {
				t.Errorf("Mul(%x, %x)", a, b)
			}
			c := l[r.Intn(len(l))]
			if !of(table.Fused(a, b, c)).same(of(table.Fused(b, a, c))) {
				t.Errorf("Fused(%x, %x, %x)", a, b, c)
			}
			if got, want := of(table.Fused(a, 1, b)), of(table.Add(a, b)); got.err == api.OK && want.err == api.OK && !got.same(want) {
				t.Errorf("Fused(%x, 1, %x): %x, not %x", a, b, got.x, want.x)
			}
			if got, want := of(table.Fused(a, b, minus0)), of(table.Mul(a, b)); got.err == api.OK && want.err == api.OK && !got.same(want) {
				t.Errorf("Fused(%x, %x, -0): %x, not %x", a, b, got.x, want.x)
			}
		}
	}
}

func TestExactDifference(t *testing.T) {
	r := rand.New(rand.NewSource(79))
	for range 50000 {
		a := some(r)
		b := a * (0.5 + 1.5*r.Float64())
		if b-b != 0 || 2*math.Abs(b) < math.Abs(a) || math.Abs(b)/2 > math.Abs(a) || math.Signbit(a) != math.Signbit(b) {
			continue
		}
		x, err := table.Sub(a, b)
		if err != api.OK || exact(x).Cmp(new(big.Rat).Sub(exact(a), exact(b))) != 0 {
			t.Fatalf("Sub(%x, %x): %x %d", a, b, x, err)
		}
	}
}

func TestBetweenNoughtAndB(t *testing.T) {
	r := rand.New(rand.NewSource(80))
	l := finites(r, 200)
	for _, a := range l {
		for _, b := range l {
			if b == 0 {
				continue
			}
			x, err := table.Mod(a, b)
			if err != api.OK || math.Signbit(x) != math.Signbit(b) || math.Abs(x) > math.Abs(b) {
				t.Errorf("Mod(%x, %x): %x %d", a, b, x, err)
			}
		}
	}
}

func TestRootOfSquare(t *testing.T) {
	r := rand.New(rand.NewSource(81))
	seen := 0
	for _, a := range finites(r, 50000) {
		square, err := table.Mul(a, a)
		if err != api.OK || parts.Class(a) != parts.Normal || parts.Class(square) != parts.Normal {
			continue
		}
		seen++
		if got := of(table.Root(square)); !got.same(is(math.Abs(a))) {
			t.Fatalf("Root of the square of %x: %x %d", a, got.x, got.err)
		}
	}
	if seen < 10000 {
		t.Errorf("only %d squares", seen)
	}
}

func TestPlacesOfWholeNumbers(t *testing.T) {
	r := rand.New(rand.NewSource(82))
	for range 5000 {
		a := math.Trunc(some(r))
		n, mode := r.Intn(401), 1+r.Intn(6)
		if got := of(table.Places(a, n, mode)); !got.same(is(a)) {
			t.Fatalf("Places(%x, %d, %d): %x %d", a, n, mode, got.x, got.err)
		}
	}
}
