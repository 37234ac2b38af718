package order_test

import (
	"math"
	"math/big"
	"math/rand"
	"slices"
	"strconv"
	"strings"
	"testing"

	"quadrille/api"
	"quadrille/order"
)

const (
	greatest = math.MaxFloat64
	least    = 0x1p-1074
	normal   = 0x1p-1022 // the least normal number
	third    = 1.0 / 3   // a little less than a third
	tenth    = 0.1       // a little more than a tenth
	nanBits  = 0x7FF8 << 48
)

var (
	inf    = math.Inf(1)
	minus0 = math.Copysign(0, -1)
	nan    = math.Float64frombits(nanBits)
	oddNaN = math.Float64frombits(0xFFF<<52 | 7)
)

func next(x float64) float64 { return math.Nextafter(x, inf) }
func prev(x float64) float64 { return math.Nextafter(x, -inf) }

// list is one of these numbers.
func list(l ...float64) []float64 { return l }

// times is a list of one number, so many times.
func times(n int, x float64) []float64 {
	l := make([]float64, n)
	for i := range l {
		l[i] = x
	}
	return l
}

// nans are float64s that are no number of mathematics.
func nans() []float64 {
	var l []float64
	for _, b := range []uint64{1, 9, 1<<51 - 1, 1 << 51, 1<<51 + 1, 1<<52 - 1} {
		l = append(l, math.Float64frombits(0x7FF<<52|b), math.Float64frombits(0xFFF<<52|b))
	}
	return l
}

// finites are finite numbers of every class, both signs of each.
func finites() []float64 {
	var l []float64
	for _, x := range []float64{0, least, 2 * least, 3 * least, 0x1p-1050, prev(normal), normal, next(normal), 0x1p-60, 0.1, 0.5, prev(1), 1, next(1), 1.5, 2, 3, 0x1p53, 0x1p53 + 2, 0x1p1023, prev(greatest), greatest} {
		l = append(l, x, -x)
	}
	return l
}

// edges are numbers of every class.
func edges() []float64 {
	return append(append(finites(), inf, -inf), nans()...)
}

// some is a finite number of any magnitude, or one near to 1, or a subnormal one, or a small whole one.
func some(r *rand.Rand) float64 {
	for {
		x := math.Float64frombits(r.Uint64())
		switch r.Intn(4) {
		case 0:
			x = math.Ldexp(2*r.Float64()-1, r.Intn(20)-10)
		case 1:
			x = math.Float64frombits(r.Uint64() >> (12 + r.Intn(52)))
		case 2:
			x = float64(r.Intn(9) - 4)
			if x == 0 && r.Intn(2) == 0 {
				x = minus0
			}
		}
		if x-x == 0 {
			return x
		}
	}
}

// someList has finite numbers, some of them more than once.
func someList(r *rand.Rand, n int) []float64 {
	l := make([]float64, n)
	for i := range l {
		l[i] = some(r)
		if i > 0 && r.Intn(4) == 0 {
			l[i] = l[r.Intn(i)]
		}
	}
	return l
}

// anyList has numbers of every kind.
func anyList(r *rand.Rand, n int) []float64 {
	l := someList(r, n)
	all := edges()
	for i := range l {
		if r.Intn(4) == 0 {
			l[i] = all[r.Intn(len(all))]
		}
	}
	return l
}

// someShare is a share of 0 to 1; often one that is near to i / (n - 1), or as small as may be.
func someShare(r *rand.Rand, n int) float64 {
	switch r.Intn(6) {
	case 0:
		return math.Float64frombits(r.Uint64() % 0x3FF0000000000001)
	case 1:
		return list(0, minus0, 1, 0.5, prev(1), prev(0.5), next(0.5), least)[r.Intn(8)]
	case 2:
		return r.Float64()
	}
	p := float64(r.Intn(n)) / float64(max(n-1, 1))
	return list(p, min(next(p), 1), max(prev(p), 0))[r.Intn(3)]
}

func exact(x float64) *big.Rat { return new(big.Rat).SetFloat64(x) }

func two(e int) *big.Rat {
	p := new(big.Rat).SetInt(new(big.Int).Lsh(big.NewInt(1), uint(max(e, -e))))
	if e < 0 {
		p.Inv(p)
	}
	return p
}

// nearest is the nearest number of a value, by the document's words: of the whole multiples of the last bit's worth. Of 0 it is +0.
func nearest(v *big.Rat) float64 {
	if v.Sign() == 0 {
		return 0
	}
	size := new(big.Rat).Abs(v)
	top := size.Num().BitLen() - size.Denom().BitLen()
	for size.Cmp(two(top)) < 0 {
		top--
	}
	last := max(top-52, -1074)
	count := size.Quo(size, two(last))
	m := new(big.Int).Quo(count.Num(), count.Denom())
	left := new(big.Rat).Sub(count, new(big.Rat).SetInt(m))
	if k := left.Cmp(big.NewRat(1, 2)); k > 0 || k == 0 && m.Bit(0) == 1 {
		m.Add(m, big.NewInt(1))
	}
	x := math.Ldexp(float64(m.Int64()), last)
	if v.Sign() < 0 {
		x = -x
	}
	return x
}

// ahead tells whether a stands ahead of b in the order of numbers.
func ahead(a, b float64) bool {
	switch {
	case a != a:
		return false
	case b != b:
		return true
	case a == 0 && b == 0:
		return math.Signbit(a) && !math.Signbit(b)
	}
	return a < b
}

// inOrder is the list in order, each number laid in behind those that it doesn't stand ahead of.
func inOrder(l []float64) []float64 {
	var out []float64
	for _, x := range l {
		if x != x {
			x = nan
		}
		i := len(out)
		for i > 0 && ahead(x, out[i-1]) {
			i--
		}
		out = slices.Insert(out, i, x)
	}
	return out
}

// between is the number between a and b, by the document's words, row by row.
func between(a, b float64, f *big.Rat) float64 {
	infinite := math.IsInf(a, 0) || math.IsInf(b, 0)
	switch {
	case f.Sign() == 0, !ahead(a, b) && !ahead(b, a):
		return a
	case a != a, b != b, infinite && a == -b:
		return nan
	case infinite && math.IsInf(a, 0):
		return a
	case infinite:
		return b
	}
	v := new(big.Rat).Sub(exact(b), exact(a))
	return nearest(v.Add(exact(a), v.Mul(f, v)))
}

// share is what Share is asked for, of a list that has a number and of a share of 0 to 1.
func share(l []float64, p float64) float64 {
	all := inOrder(l)
	h := exact(p)
	h.Mul(h, big.NewRat(int64(len(l)-1), 1))
	i := new(big.Int).Quo(h.Num(), h.Denom())
	f := h.Sub(h, new(big.Rat).SetInt(i))
	k := int(i.Int64())
	if k == len(all)-1 {
		return all[k]
	}
	return between(all[k], all[k+1], f)
}

// holds tells whether a stands to b as an operation says.
func holds(a float64, op int, b float64) bool {
	switch op {
	case api.OpEq:
		return a == b
	case api.OpNe:
		return a != b
	case api.OpLt:
		return a < b
	case api.OpLe:
		return a <= b
	case api.OpGt:
		return a > b
	}
	return a >= b
}

// An answer is a number or a count, or both, and an error.
type answer struct {
	x   float64
	n   int
	err api.Errno
}

func is(x float64) answer                  { return answer{x: x} }
func many(n int) answer                    { return answer{n: n} }
func both(x float64, n int) answer         { return answer{x: x, n: n} }
func bad(err api.Errno) answer             { return answer{err: err} }
func of(x float64, e api.Errno) answer     { return answer{x: x, err: e} }
func count(n int, e api.Errno) answer      { return answer{n: n, err: e} }
func most(l []float64) answer              { x, n, e := order.Often(l); return answer{x, n, e} }
func middle(l []float64) answer            { return of(order.Middle(l)) }
func shared(l []float64, p float64) answer { return of(order.Share(l, p)) }

func (a answer) same(b answer) bool {
	return math.Float64bits(a.x) == math.Float64bits(b.x) && a.n == b.n && a.err == b.err
}

func told(l []float64) string {
	var b strings.Builder
	for _, x := range l {
		b.WriteString(" " + strconv.FormatFloat(x, 'x', -1, 64))
	}
	return b.String()
}

// want fails, if an answer is not what it should be.
func want(t *testing.T, what string, got, want answer, lists ...[]float64) {
	t.Helper()
	if got.same(want) {
		return
	}
	for _, l := range lists {
		what += " of" + told(l[:min(len(l), 20)])
	}
	t.Errorf("%s: %s (%x) %d %v, want %s (%x) %d %v", what, told(list(got.x)), math.Float64bits(got.x), got.n, got.err, told(list(want.x)), math.Float64bits(want.x), want.n, want.err)
}

func sameLists(a, b []float64) bool {
	return slices.EqualFunc(a, b, func(x, y float64) bool { return math.Float64bits(x) == math.Float64bits(y) })
}

// P9.1

func TestSorted(t *testing.T) {
	for _, c := range []struct{ l, want []float64 }{
		{nil, nil}, {list(), nil}, {list(5), list(5)}, {list(minus0), list(minus0)}, {list(oddNaN), list(nan)},
		{list(2, 1), list(1, 2)}, {list(1, 2), list(1, 2)}, {list(3, 3), list(3, 3)}, {list(-1, -2), list(-2, -1)},
		{list(0, minus0), list(minus0, 0)}, {list(0, minus0, 0, minus0, 0), list(minus0, minus0, 0, 0, 0)}, {list(0, -least, least, minus0), list(-least, minus0, 0, least)},
		{list(oddNaN, inf), list(inf, nan)}, {list(nan, oddNaN, -inf), list(-inf, nan, nan)}, {list(inf, -inf, inf, greatest, -greatest), list(-inf, -greatest, greatest, inf, inf)},
		{list(0, oddNaN, minus0, -inf, 3, 0), list(-inf, minus0, 0, 0, 3, nan)},
		{list(4, 4, 2, 4, 2), list(2, 2, 4, 4, 4)}, {list(10, 9, 8, 7, 6, 5, 4, 3, 2, 1), list(1, 2, 3, 4, 5, 6, 7, 8, 9, 10)},
	} {
		if got := order.Sorted(c.l); !sameLists(got, c.want) {
			t.Errorf("Sorted of%s:%s, want%s", told(c.l), told(got), told(c.want))
		}
	}
	r := rand.New(rand.NewSource(91))
	for range 400 {
		l := anyList(r, r.Intn(60))
		if got, want := order.Sorted(l), inOrder(l); !sameLists(got, want) {
			t.Errorf("Sorted of%s:%s, want%s", told(l), told(got), told(want))
		}
	}
	if l := edges(); !sameLists(order.Sorted(l), inOrder(l)) {
		t.Error("Sorted of the edges:", told(order.Sorted(l)))
	}
}

func TestEnds(t *testing.T) {
	for _, c := range []struct {
		l           []float64
		first, last answer
	}{
		{nil, bad(api.ErrEmpty), bad(api.ErrEmpty)}, {list(), bad(api.ErrEmpty), bad(api.ErrEmpty)},
		{list(5), is(5), is(5)}, {list(minus0), is(minus0), is(minus0)}, {list(oddNaN), is(nan), is(nan)}, {list(-inf), is(-inf), is(-inf)},
		{list(2, 1), is(1), is(2)}, {list(1, 2), is(1), is(2)}, {list(7, 7, 7), is(7), is(7)}, {list(-1, -3, -2), is(-3), is(-1)},
		{list(2, nan), is(2), is(nan)}, {list(oddNaN, 2), is(2), is(nan)}, {list(nan, oddNaN), is(nan), is(nan)}, {list(oddNaN, inf, 1), is(1), is(nan)},
		{list(0, minus0), is(minus0), is(0)}, {list(minus0, 0), is(minus0), is(0)}, {list(minus0, minus0), is(minus0), is(minus0)}, {list(minus0, -least), is(-least), is(minus0)},
		{list(inf, 3, -inf), is(-inf), is(inf)}, {list(inf, greatest), is(greatest), is(inf)}, {list(oddNaN, -inf, inf), is(-inf), is(nan)},
	} {
		want(t, "Least", of(order.Least(c.l)), c.first, c.l)
		want(t, "Greatest", of(order.Greatest(c.l)), c.last, c.l)
	}
	r := rand.New(rand.NewSource(911))
	for range 400 {
		l := anyList(r, 1+r.Intn(20))
		all := inOrder(l)
		want(t, "Least", of(order.Least(l)), is(all[0]), l)
		want(t, "Greatest", of(order.Greatest(l)), is(all[len(l)-1]), l)
	}
}

func TestNth(t *testing.T) {
	arg, empty := bad(api.ErrArg), bad(api.ErrEmpty)
	for _, c := range []struct {
		l    []float64
		k    int
		want answer
	}{
		{list(5, 4, 4), 0, arg}, {list(5, 4, 4), 1, is(4)}, {list(5, 4, 4), 2, is(4)}, {list(5, 4, 4), 3, is(5)}, {list(5, 4, 4), 4, arg},
		{list(5, 4, 4), -1, arg}, {list(5, 4, 4), -3, arg}, {list(5, 4, 4), math.MaxInt, arg}, {list(5, 4, 4), math.MinInt, arg},
		{nil, 0, empty}, {nil, 1, empty}, {list(), -1, empty}, {list(), math.MaxInt, empty},
		{list(9), 0, arg}, {list(9), 1, is(9)}, {list(9), 2, arg}, {list(oddNaN), 1, is(nan)}, {list(oddNaN), 2, arg},
		{list(0, minus0), 1, is(minus0)}, {list(0, minus0), 2, is(0)}, {list(0, minus0), 3, arg},
		{list(oddNaN, inf, -inf), 1, is(-inf)}, {list(oddNaN, inf, -inf), 2, is(inf)}, {list(oddNaN, inf, -inf), 3, is(nan)},
	} {
		want(t, "Nth "+strconv.Itoa(c.k), of(order.Nth(c.l, c.k)), c.want, c.l)
	}
	r := rand.New(rand.NewSource(912))
	for range 100 {
		l := anyList(r, 1+r.Intn(20))
		for i, x := range inOrder(l) {
			want(t, "Nth "+strconv.Itoa(i+1), of(order.Nth(l, i+1)), is(x), l)
		}
	}
}

// P9.2

func TestMiddle(t *testing.T) {
	for _, c := range []struct {
		l    []float64
		want answer
	}{
		{nil, bad(api.ErrEmpty)}, {list(), bad(api.ErrEmpty)}, {list(3), is(3)}, {list(minus0), is(minus0)}, {list(oddNaN), is(nan)}, {list(-inf), is(-inf)},
		{list(1, 2), is(1.5)}, {list(2, 1), is(1.5)}, {list(3, 1, 2), is(2)}, {list(4, 1, 3, 2), is(2.5)}, {list(9, 1, 5, 3, 7), is(5)}, {list(-3, -1), is(-2)}, {list(-1, 1), is(0)}, {list(-1, 2), is(0.5)},
		{list(5, 5), is(5)}, {list(5, 5, 5), is(5)}, {list(1, 5, 5, 9), is(5)}, {list(0.1, 0.1), is(0.1)},
		{list(-inf, inf), is(nan)}, {list(inf, -inf, 3), is(3)}, {list(1, inf), is(inf)}, {list(-inf, 1), is(-inf)}, {list(inf, inf), is(inf)}, {list(-inf, -inf), is(-inf)}, {list(inf, inf, -inf, -inf), is(nan)}, {list(-inf, 1, 2, inf), is(1.5)},
		{list(greatest, prev(greatest)), is(prev(greatest))}, {list(greatest, greatest), is(greatest)}, {list(-greatest, greatest), is(0)}, {list(-greatest, prev(greatest)), is(-0x1p970)}, {list(-greatest, -prev(greatest)), is(-prev(greatest))},
		{list(minus0, 0), is(0)}, {list(0, minus0), is(0)}, {list(minus0, minus0), is(minus0)}, {list(0, 0), is(0)}, {list(minus0, minus0, 0), is(minus0)}, {list(minus0, 0, 0), is(0)}, {list(minus0, 2), is(1)},
		{list(1, next(1)), is(1)}, {list(next(1), 1+0x1p-51), is(1 + 0x1p-51)}, {list(-1, -next(1)), is(-1)}, {list(0x1p53, 0x1p53+2), is(0x1p53)}, {list(0x1p53-1, 0x1p53+2), is(0x1p53)}, {list(0x1p53+2, 0x1p53+4), is(0x1p53 + 4)},
		{list(0, least), is(0)}, {list(minus0, least), is(0)}, {list(-least, 0), is(minus0)}, {list(-least, minus0), is(minus0)}, {list(least, 2*least), is(2 * least)}, {list(2*least, 3*least), is(2 * least)}, {list(-2*least, -least), is(-2 * least)}, {list(-least, least), is(0)}, {list(-least, 2*least), is(0)}, {list(-2*least, least), is(minus0)}, {list(-3*least, least), is(-least)}, {list(normal, prev(normal)), is(normal)},
		{list(1, nan), is(nan)}, {list(oddNaN, 1), is(nan)}, {list(oddNaN, nan), is(nan)}, {list(1, 2, nan), is(2)}, {list(1, nan, oddNaN), is(nan)}, {list(1, 2, 3, nan), is(2.5)}, {list(inf, nan), is(nan)}, {list(-inf, oddNaN), is(nan)},
	} {
		want(t, "Middle", middle(c.l), c.want, c.l)
	}
}

func TestShare(t *testing.T) {
	arg, empty := bad(api.ErrArg), bad(api.ErrEmpty)
	for _, c := range []struct {
		l    []float64
		p    float64
		want answer
	}{
		{list(0, 10), 0.1, is(1)}, {list(10, 0), 0.1, is(1)}, {list(0, 10, 20), 0.5, is(10)}, {list(20, 0, 10), 0.25, is(5)}, {list(0, 10), 0.75, is(7.5)}, {list(-10, 10), 0.25, is(-5)},
		{list(3, 1, 2), 0, is(1)}, {list(3, 1, 2), minus0, is(1)}, {list(3, 1, 2), 1, is(3)}, {list(3, 1, 2), 0.5, is(2)}, {list(3, 1, 2), prev(1), is(3)},
		{list(7), 0, is(7)}, {list(7), least, is(7)}, {list(7), 0.3, is(7)}, {list(7), 1, is(7)}, {list(minus0), 0.3, is(minus0)}, {list(oddNaN), 0.3, is(nan)}, {list(oddNaN), 0, is(nan)}, {list(oddNaN), 1, is(nan)},
		// Wrong shares.
		{list(1, 2), 1.5, arg}, {list(1, 2), next(1), arg}, {list(1, 2), -least, arg}, {list(1, 2), -1, arg}, {list(1, 2), inf, arg}, {list(1, 2), -inf, arg}, {list(1, 2), nan, arg}, {list(1, 2), oddNaN, arg}, {list(1), 2, arg}, {list(nan), nan, arg},
		{nil, 0.5, empty}, {list(), 0, empty}, {nil, 1.5, empty}, {nil, nan, empty}, {list(), -inf, empty},
		// The least share, and the greatest one below 1.
		{list(0, 1), least, is(least)}, {list(0, 2), least, is(2 * least)}, {list(0, 0.5), least, is(0)}, {list(0, 0.75), least, is(least)}, {list(-1, 1), least, is(-1)}, {list(0, greatest), least, is(prev(0x1p-50))}, {list(0, 1), prev(1), is(prev(1))}, {list(1, 2), prev(1), is(2)}, {list(0, least), prev(1), is(least)}, {list(least, 3), least, is(4 * least)},
		// p (len(l) - 1) is just beside a whole number, where a product of floats is one.
		{list(-inf, 0, 5, 6), third, is(-inf)}, {list(-inf, 0, 5, 6), next(third), is(5 * 0x1p-53)}, {list(0, 1, 2, 3), third, is(1)}, {list(-inf, -inf, 0, 1), 2.0 / 3, is(-inf)}, {list(0, 0, 5, inf), next(2.0 / 3), is(inf)},
		{append(times(2, 1), times(9, inf)...), tenth, is(inf)}, {append(times(2, 1), times(9, inf)...), prev(tenth), is(1)}, {append(times(1, -inf), times(10, 1)...), prev(tenth), is(-inf)}, {append(times(3, -4), times(48, inf)...), 0.04, is(inf)},
		{append(times(49, -inf), 0, 1), prev(1), is(1 - 50*0x1p-53)},
		// It is a whole number.
		{list(1, 2, 3, inf, 5), 0.25, is(2)}, {list(1, nan, 3, inf, 5), 0.5, is(5)}, {list(-inf, 7, inf), 0.5, is(7)}, {append(times(5, -inf), 3, inf, inf, inf), 0.625, is(3)},
		// Infinities and the NaN.
		{list(1, inf), 0.5, is(inf)}, {list(1, inf), 0, is(1)}, {list(1, inf), minus0, is(1)}, {list(1, inf), 1, is(inf)}, {list(1, inf), least, is(inf)}, {list(-inf, 1), prev(1), is(-inf)}, {list(-inf, 1), 1, is(1)},
		{list(-inf, inf), 0, is(-inf)}, {list(-inf, inf), 1, is(inf)}, {list(-inf, inf), least, is(nan)}, {list(-inf, inf), 0.5, is(nan)}, {list(-inf, -inf), 0.3, is(-inf)}, {list(inf, inf), 0.3, is(inf)},
		{list(1, nan), 0, is(1)}, {list(1, nan), least, is(nan)}, {list(1, oddNaN), 1, is(nan)}, {list(inf, oddNaN), 0.25, is(nan)}, {list(-inf, oddNaN), 0.25, is(nan)}, {list(oddNaN, oddNaN), 0.25, is(nan)}, {list(1, 2, oddNaN), 0.25, is(1.5)}, {list(1, 2, oddNaN), next(0.5), is(nan)},
		// The difference is beyond all numbers.
		{list(-greatest, greatest), 0.5, is(0)}, {list(-greatest, greatest), 0.75, is(greatest / 2)}, {list(-greatest, greatest), 0.25, is(-greatest / 2)}, {list(-greatest, greatest), prev(1), is(prev(prev(greatest)))}, {list(-greatest, greatest), least, is(-greatest)},
		// Half way, and noughts.
		{list(1, next(next(1))), 0.25, is(1)}, {list(1, next(next(1))), 0.75, is(next(next(1)))}, {list(1, next(next(1))), prev(0.75), is(next(1))}, {list(1, next(next(1))), next(0.25), is(next(1))},
		{list(-least, 0), 0.75, is(minus0)}, {list(-least, 0), 0.5, is(minus0)}, {list(-least, 0), prev(0.5), is(-least)}, {list(-least, minus0), 0.75, is(minus0)}, {list(-least, 0), 1, is(0)}, {list(-least, minus0), 1, is(minus0)}, {list(-least, least), 0.5, is(0)}, {list(-least, least), prev(0.5), is(minus0)}, {list(-least, 2*least), third, is(minus0)},
		{list(minus0, 0), 0, is(minus0)}, {list(minus0, 0), least, is(0)}, {list(minus0, 0), prev(1), is(0)}, {list(minus0, 0), 1, is(0)}, {list(minus0, minus0), 0.7, is(minus0)}, {list(minus0, 1), least, is(least)}, {list(minus0, 0.5), least, is(0)},
		{list(least, 2*least), 0.25, is(least)}, {list(least, 2*least), 0.5, is(2 * least)}, {list(2*least, 4*least), 0.25, is(2 * least)},
	} {
		want(t, "Share "+told(list(c.p)), shared(c.l, c.p), c.want, c.l)
	}
}

func TestShares(t *testing.T) {
	r := rand.New(rand.NewSource(92))
	for i := range 6000 {
		n := 1 + r.Intn(12)
		l := someList(r, n)
		if i%3 == 0 {
			l = anyList(r, n)
		}
		p := someShare(r, n)
		want(t, "Share "+told(list(p)), shared(l, p), is(share(l, p)), l)
		want(t, "Middle", middle(l), is(share(l, 0.5)), l)
		if q := math.Float64frombits(r.Uint64()); !(q >= 0 && q <= 1) {
			want(t, "Share "+told(list(q)), shared(l, q), bad(api.ErrArg), l)
		}
	}
	all := edges()
	for _, a := range all {
		for _, b := range all {
			for _, p := range list(0, minus0, least, 0.25, third, 0.5, prev(1), 1) {
				l := list(a, b)
				want(t, "Share "+told(list(p)), shared(l, p), is(share(l, p)), l)
			}
		}
	}
}

// P9.3

func TestRank(t *testing.T) {
	arg := bad(api.ErrArg)
	for _, c := range []struct {
		l           []float64
		x           float64
		rising, not answer
	}{
		{nil, 0, bad(api.ErrEmpty), bad(api.ErrEmpty)}, {list(), nan, bad(api.ErrEmpty), bad(api.ErrEmpty)}, {nil, inf, bad(api.ErrEmpty), bad(api.ErrEmpty)},
		{list(1), nan, bad(api.ErrNaN), bad(api.ErrNaN)}, {list(nan), nan, bad(api.ErrNaN), bad(api.ErrNaN)}, {list(1, 2), oddNaN, bad(api.ErrNaN), bad(api.ErrNaN)},
		{list(1), 2, arg, arg}, {list(nan), 1, arg, arg}, {list(1, 3), 2, arg, arg}, {list(inf), -inf, arg, arg}, {list(greatest), inf, arg, arg}, {list(1, 3), next(1), arg, arg}, {list(least), 0, arg, arg},
		{list(1), 1, many(1), many(1)}, {list(1, 2), 1, many(1), many(2)}, {list(2, 1), 2, many(2), many(1)}, {list(7, 3, 5), 5, many(2), many(2)}, {list(7, 3, 5, -1), 7, many(4), many(1)},
		{list(4, 4, 4), 4, many(1), many(1)}, {list(1, 4, 4, 9), 4, many(2), many(2)}, {list(4, 1, 4, 0, 9, 4), 4, many(3), many(2)},
		{list(3, minus0, 0, -1), 0, many(2), many(2)}, {list(3, minus0, 0, -1), minus0, many(2), many(2)}, {list(3, minus0, 0, -1), 4, arg, arg}, {list(minus0), 0, many(1), many(1)}, {list(0), minus0, many(1), many(1)}, {list(minus0, 0, least), least, many(3), many(1)},
		{list(nan, 1), 1, many(1), many(1)}, {list(nan, 1, oddNaN, 2), 2, many(2), many(1)}, {list(nan, 1, oddNaN, 2), 1, many(1), many(2)},
		{list(inf, -inf, 0, inf), inf, many(3), many(1)}, {list(inf, -inf, 0, inf), -inf, many(1), many(4)}, {list(inf, -inf, 0, inf), 0, many(2), many(3)}, {list(inf, nan, greatest), greatest, many(1), many(2)},
	} {
		want(t, "Rank, rising,"+told(list(c.x)), count(order.Rank(c.l, c.x, true)), c.rising, c.l)
		want(t, "Rank, falling,"+told(list(c.x)), count(order.Rank(c.l, c.x, false)), c.not, c.l)
	}
	r := rand.New(rand.NewSource(93))
	for range 300 {
		l := anyList(r, 1+r.Intn(15))
		for _, x := range l {
			below, above := 1, 1
			for _, a := range l {
				if a < x {
					below++
				}
				if a > x {
					above++
				}
			}
			rising, not := many(below), many(above)
			if x != x {
				rising, not = bad(api.ErrNaN), bad(api.ErrNaN)
			}
			want(t, "Rank, rising,"+told(list(x)), count(order.Rank(l, x, true)), rising, l)
			want(t, "Rank, falling,"+told(list(x)), count(order.Rank(l, x, false)), not, l)
		}
	}
}

func TestCount(t *testing.T) {
	numbers, noughts, ends := list(1, 2, 2, 3), list(minus0, 0, 0, least, -least), list(-inf, inf, inf, 7)
	for _, c := range []struct {
		l                      []float64
		x                      float64
		eq, ne, lt, le, gt, ge int
	}{
		{nil, 0, 0, 0, 0, 0, 0, 0}, {list(), nan, 0, 0, 0, 0, 0, 0},
		{numbers, 2, 2, 2, 1, 3, 1, 3}, {numbers, 0, 0, 4, 0, 0, 4, 4}, {numbers, 4, 0, 4, 4, 4, 0, 0}, {numbers, 2.5, 0, 4, 3, 3, 1, 1}, {numbers, inf, 0, 4, 4, 4, 0, 0}, {numbers, nan, 0, 4, 0, 0, 0, 0}, {numbers, oddNaN, 0, 4, 0, 0, 0, 0},
		{noughts, 0, 3, 2, 1, 4, 1, 4}, {noughts, minus0, 3, 2, 1, 4, 1, 4}, {noughts, least, 1, 4, 4, 5, 0, 1},
		{ends, inf, 2, 2, 2, 4, 0, 2}, {ends, -inf, 1, 3, 0, 1, 3, 4}, {ends, greatest, 0, 4, 2, 2, 2, 2},
		{list(1, nan, minus0), 0, 1, 2, 0, 1, 1, 2}, {list(nan, oddNaN), nan, 0, 2, 0, 0, 0, 0}, {list(nan, oddNaN), 3, 0, 2, 0, 0, 0, 0}, {list(nan, oddNaN), inf, 0, 2, 0, 0, 0, 0}, {list(5), 5, 1, 0, 0, 1, 0, 1},
	} {
		for i, n := range []int{c.eq, c.ne, c.lt, c.le, c.gt, c.ge} {
			want(t, "Count "+strconv.Itoa(api.OpEq+i)+told(list(c.x)), count(order.Count(c.l, api.OpEq+i, c.x)), many(n), c.l)
		}
		for _, op := range []int{0, api.OpPlus, api.OpMinus, api.OpPercent, api.OpAdd, api.OpJoin, 16, 17, -1, -10, -15, math.MaxInt, math.MinInt, 1<<32 + api.OpEq} {
			want(t, "Count "+strconv.Itoa(op), count(order.Count(c.l, op, c.x)), bad(api.ErrArg), c.l)
		}
	}
	l := append(edges(), edges()[3:9]...)
	for _, x := range edges() {
		for op := api.OpEq; op <= api.OpGe; op++ {
			n := 0
			for _, a := range l {
				if holds(a, op, x) {
					n++
				}
			}
			want(t, "Count "+strconv.Itoa(op)+told(list(x)), count(order.Count(l, op, x)), many(n), l)
		}
	}
}

// P9.4

func TestOften(t *testing.T) {
	for _, c := range []struct {
		l    []float64
		want answer
	}{
		{nil, bad(api.ErrEmpty)}, {list(), bad(api.ErrEmpty)}, {list(5), both(5, 1)}, {list(minus0), both(minus0, 1)}, {list(oddNaN), both(nan, 1)}, {list(-inf), both(-inf, 1)},
		{list(1, minus0, 0, 1), both(minus0, 2)}, {list(nan, nan, 1), both(nan, 2)}, {list(oddNaN, 1, nan), both(nan, 2)}, {list(nan, oddNaN, 1, 1), both(1, 2)}, {list(nan, 3, 2), both(2, 1)},
		{list(2, 1, 1, 2), both(1, 2)}, {list(2, 1), both(1, 1)}, {list(2, 2, 1), both(2, 2)}, {list(3, 1, 2, 3, 1), both(1, 2)}, {list(3, 1, 2, 3), both(3, 2)}, {list(4, 4, 4), both(4, 3)}, {list(9, 5, 9, 5, 9), both(9, 3)},
		{list(0, 0, minus0), both(minus0, 3)}, {list(0, 0), both(0, 2)}, {list(minus0, minus0), both(minus0, 2)}, {list(0, 1, 1, minus0, 1), both(1, 3)}, {list(0, least, minus0, -least), both(minus0, 2)}, {list(-1, 0, -1, minus0), both(-1, 2)},
		{list(inf, -inf, inf), both(inf, 2)}, {list(inf, -inf), both(-inf, 1)}, {list(inf, inf, nan, nan), both(inf, 2)}, {list(greatest, inf, inf), both(inf, 2)}, {list(1, next(1), next(1)), both(next(1), 2)},
	} {
		want(t, "Often", most(c.l), c.want, c.l)
	}
	r := rand.New(rand.NewSource(94))
	for range 500 {
		l := anyList(r, 1+r.Intn(25))
		best, times := 0.0, 0
		for _, x := range inOrder(l) {
			n := 0
			for _, y := range l {
				if x == y || x != x && y != y {
					n++
				}
			}
			if n > times {
				best, times = x, n
			}
		}
		want(t, "Often", most(l), both(best, times), l)
	}
}

// P9.5: the order of the list doesn't count.
func TestOrders(t *testing.T) {
	r := rand.New(rand.NewSource(95))
	for range 200 {
		n := 1 + r.Intn(30)
		l := anyList(r, n)
		p, x, k := someShare(r, n), l[r.Intn(n)], 1+r.Intn(n)
		all := func() []answer {
			out := []answer{of(order.Least(l)), of(order.Greatest(l)), of(order.Nth(l, k)), middle(l), shared(l, p), count(order.Rank(l, x, true)), count(order.Rank(l, x, false)), most(l)}
			for op := api.OpEq; op <= api.OpGe; op++ {
				out = append(out, count(order.Count(l, op, x)))
			}
			return out
		}
		was, sorted := all(), order.Sorted(l)
		for range 4 {
			r.Shuffle(n, func(i, k int) { l[i], l[k] = l[k], l[i] })
			for i, a := range all() {
				want(t, "in another order, "+strconv.Itoa(i), a, was[i], l)
			}
			if !sameLists(order.Sorted(l), sorted) {
				t.Error("Sorted in another order:", told(l))
			}
		}
	}
}

// P9.5: what stands ahead of what.
func TestPlacesFollow(t *testing.T) {
	r := rand.New(rand.NewSource(955))
	for i := range 1000 {
		n := 1 + r.Intn(12)
		l := anyList(r, n)
		for i, x := range order.Sorted(l) {
			want(t, "Nth and Sorted", of(order.Nth(l, i+1)), is(x), l)
		}
		first, _ := order.Least(l)
		last, _ := order.Greatest(l)
		mid, _ := order.Middle(l)
		want(t, "Share 0", shared(l, 0), is(first), l)
		want(t, "Share 1", shared(l, 1), is(last), l)
		if !(slices.Contains(l, inf) && slices.Contains(l, -inf)) && (ahead(mid, first) || ahead(last, mid)) {
			t.Error("Least, Middle, Greatest:", first, mid, last, told(l))
		}
		if i%2 == 0 {
			n += 1 - n%2
			l = anyList(r, n)
			all, more := inOrder(l), slices.Clone(l)
			low, high := list(-inf, all[r.Intn(n/2+1)])[r.Intn(2)], list(oddNaN, all[n/2+r.Intn(n/2+1)])[r.Intn(2)]
			was := middle(l)
			want(t, "one more on each side", middle(append(more, low, high)), was, l)
		}
		l = someList(r, n)
		p, q := someShare(r, n), someShare(r, n)
		a, _ := order.Share(l, min(p, q))
		b, _ := order.Share(l, max(p, q))
		if ahead(b, a) {
			t.Error("Share of a greater share stands ahead:", p, q, a, b, told(l))
		}
		a, _ = order.Share(l, prev(max(p, least)))
		if b, _ = order.Share(l, max(p, least)); ahead(b, a) {
			t.Error("Share of the next share stands ahead:", p, a, b, told(l))
		}
	}
}

// P9.5: what counts make up.
func TestCountsFollow(t *testing.T) {
	r := rand.New(rand.NewSource(956))
	for range 500 {
		n := 1 + r.Intn(20)
		l := anyList(r, n)
		none := 0
		for _, x := range l {
			if x != x {
				none++
			}
		}
		for _, x := range append(l, edges()...) {
			var c [api.OpGe + 1]int
			for op := api.OpEq; op <= api.OpGe; op++ {
				c[op], _ = order.Count(l, op, x)
			}
			if c[api.OpEq]+c[api.OpNe] != n {
				t.Error("OpEq and OpNe:", c, x, told(l))
			}
			if x == x && c[api.OpLt]+c[api.OpEq]+c[api.OpGt]+none != n {
				t.Error("OpLt, OpEq, OpGt and the NaNs:", c, none, x, told(l))
			}
			rising, err := order.Rank(l, x, true)
			falling, _ := order.Rank(l, x, false)
			if (err == api.OK) != (x == x && c[api.OpEq] > 0) {
				t.Error("Rank of what is there:", err, x, told(l))
			}
			if err == api.OK && (min(rising, falling) < 1 || max(rising, falling) > n || rising+falling != n+2-c[api.OpEq]-none) {
				t.Error("ranks:", rising, falling, x, told(l))
			}
		}
	}
}

// No list is too long here: the chapter names no such error.
func TestLong(t *testing.T) {
	r := rand.New(rand.NewSource(99))
	n := api.MaxList + 2
	l := make([]float64, n)
	for i := range l {
		l[i] = float64(i)
	}
	r.Shuffle(n, func(i, k int) { l[i], l[k] = l[k], l[i] })
	for i, x := range order.Sorted(l) {
		if x != float64(i) {
			t.Fatal("Sorted of a long list at", i, x)
		}
	}
	want(t, "Least of many", of(order.Least(l)), is(0))
	want(t, "Greatest of many", of(order.Greatest(l)), is(float64(n-1)))
	want(t, "Nth of many", of(order.Nth(l, n-1)), is(float64(n-2)))
	want(t, "Middle of many", middle(l), is(float64(n-1)/2))
	want(t, "Share of many", shared(l, 0.25), is(float64(n-1)/4))
	want(t, "Share of many", shared(l, least), is(float64(n-1)*least))
	want(t, "Rank of many", count(order.Rank(l, 5, true)), many(6))
	want(t, "Count of many", count(order.Count(l, api.OpNe, 5)), many(n-1))
	want(t, "Often of many", most(l), both(0, 1))
}

// R3: lists stay as they were, spare room too, and answers are new memory.
func TestListsStay(t *testing.T) {
	room := list(3, 2, minus0, 0.1, inf, least, -greatest, 5)
	room[1] = oddNaN
	was := slices.Clone(room)
	for _, l := range [][]float64{room, room[1:5:7], room[1:5], room[2:2], room[:1]} {
		out := order.Sorted(l)
		out = out[:cap(out)]
		for i := range out {
			out[i] = 77
		}
		order.Least(l)
		order.Greatest(l)
		order.Nth(l, 2)
		order.Middle(l)
		order.Share(l, 0.3)
		order.Rank(l, inf, true)
		order.Rank(l, inf, false)
		order.Often(l)
		for op := api.OpEq - 1; op <= api.OpGe+1; op++ {
			order.Count(l, op, 1)
		}
		if !sameLists(room, was) {
			t.Fatal("a list was changed:", told(room))
		}
	}
	l := list(1, 2, 3)
	out := order.Sorted(l)
	l[0] = 100
	if again := order.Sorted(list(1, 2, 3)); !sameLists(out, again) || &out[0] == &again[0] {
		t.Error("Sorted shares its answer's memory")
	}
}
