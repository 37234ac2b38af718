package sums_test

import (
	"math"
	"math/big"
	"math/rand"
	"slices"
	"strconv"
	"strings"
	"testing"

	"quadrille/api"
	"quadrille/sums"
	"quadrille/table"
)

const (
	greatest = math.MaxFloat64
	least    = 0x1p-1074
	normal   = 0x1p-1022 // the least normal number
	overHalf = 0x1p970   // half of the worth of the greatest number's last bit
	nanBits  = 0x7FF8 << 48
)

var (
	inf    = math.Inf(1)
	minus0 = math.Copysign(0, -1)
	nan    = math.Float64frombits(nanBits)
)

func next(x float64) float64 { return math.Nextafter(x, inf) }
func prev(x float64) float64 { return math.Nextafter(x, -inf) }

// list is one of these numbers.
func list(l ...float64) []float64 { return l }

// times is a list of one number, so many times.
func times(n int, x float64) []float64 {
	l := make([]float64, n)
	for i := range l {
		l[i] = x
	}
	return l
}

// nans are float64s that are no number of mathematics.
func nans() []float64 {
	var l []float64
	for _, b := range []uint64{1, 9, 1<<51 - 1, 1 << 51, 1<<51 + 1, 1<<52 - 1} {
		l = append(l, math.Float64frombits(0x7FF<<52|b), math.Float64frombits(0xFFF<<52|b))
	}
	return l
}

// finites are finite numbers of every class, both signs of each.
func finites() []float64 {
	var l []float64
	for _, x := range []float64{0, least, 2 * least, 3 * least, 0x1p-1050, prev(normal), normal, next(normal), 0x1p-537, 0x1p-60, 0x1p-53, 0.1, 0.25, 0.5, prev(1), 1, next(1), 1.5, 2, 3, 10, 0x1p53, 0x1p53 + 2, 0x1p512, prev(overHalf), overHalf, 0x1p1023, prev(greatest), greatest} {
		l = append(l, x, -x)
	}
	return l
}

// edges are numbers of every class.
func edges() []float64 {
	return append(append(finites(), inf, -inf), nans()...)
}

// some is a finite number of any magnitude, or one near to 1, or a subnormal one, or a small whole one.
func some(r *rand.Rand) float64 {
	for {
		x := math.Float64frombits(r.Uint64())
		switch r.Intn(4) {
		case 0:
			x = math.Ldexp(2*r.Float64()-1, r.Intn(20)-10)
		case 1:
			x = math.Float64frombits(r.Uint64() >> (12 + r.Intn(52)))
		case 2:
			x = float64(r.Intn(21) - 10)
		}
		if x-x == 0 {
			return x
		}
	}
}

// anyOf is one of some's, or sometimes one of the edges.
func anyOf(r *rand.Rand) float64 {
	if l := edges(); r.Intn(8) == 0 {
		return l[r.Intn(len(l))]
	}
	return some(r)
}

// someList has finite numbers, some of them with their opposites, so that much of the sum is cancelled.
func someList(r *rand.Rand, n int) []float64 {
	var l []float64
	for len(l) < n {
		x := some(r)
		l = append(l, x)
		if r.Intn(3) == 0 {
			l = append(l, -x)
		}
	}
	l = l[:n]
	r.Shuffle(n, func(i, k int) { l[i], l[k] = l[k], l[i] })
	return l
}

func exact(x float64) *big.Rat { return new(big.Rat).SetFloat64(x) }

func two(e int) *big.Rat {
	p := new(big.Rat).SetInt(new(big.Int).Lsh(big.NewInt(1), uint(max(e, -e))))
	if e < 0 {
		p.Inv(p)
	}
	return p
}

// An answer is a number and an error.
type answer struct {
	x   float64
	err api.Errno
}

func is(x float64) answer              { return answer{x: x} }
func bad(err api.Errno) answer         { return answer{err: err} }
func of(x float64, e api.Errno) answer { return answer{x, e} }

func (a answer) same(b answer) bool {
	return math.Float64bits(a.x) == math.Float64bits(b.x) && a.err == b.err
}

// nearest is the nearest of a value, by the document's words: of the whole multiples of the last bit's worth. Of 0 it is +0.
func nearest(v *big.Rat) answer {
	if v.Sign() == 0 {
		return is(0)
	}
	size := new(big.Rat).Abs(v)
	top := size.Num().BitLen() - size.Denom().BitLen()
	for size.Cmp(two(top)) < 0 {
		top--
	}
	last := max(top-52, -1074)
	count := size.Quo(size, two(last))
	m := new(big.Int).Quo(count.Num(), count.Denom())
	left := new(big.Rat).Sub(count, new(big.Rat).SetInt(m))
	if k := left.Cmp(big.NewRat(1, 2)); k > 0 || k == 0 && m.Bit(0) == 1 {
		m.Add(m, big.NewInt(1))
	}
	if m.BitLen()+last > 1024 {
		return bad(api.ErrOver)
	}
	x := math.Ldexp(float64(m.Int64()), last)
	if v.Sign() < 0 {
		x = -x
	}
	return is(x)
}

// The sorts of terms, as the tests know them.
const (
	sortNaN   = "NaN"
	sortPlus  = "+infinity"
	sortMinus = "-infinity"
	sortBelow = "-0"
	sortOther = "other"
)

func sortOf(x float64) string {
	switch {
	case x != x:
		return sortNaN
	case x == inf:
		return sortPlus
	case x == -inf:
		return sortMinus
	case x == 0 && math.Signbit(x):
		return sortBelow
	}
	return sortOther
}

// A model has what the document says that an Acc knows.
type model struct {
	n map[string]int
	v *big.Rat
}

func newModel() *model { return &model{map[string]int{}, new(big.Rat)} }

func (m *model) lay(sort string, v *big.Rat) {
	m.n[sort]++
	m.v.Add(m.v, v)
}

func (m *model) add(l ...float64) *model {
	for _, x := range l {
		if s := sortOf(x); s == sortOther {
			m.lay(s, exact(x))
		} else {
			m.lay(s, new(big.Rat))
		}
	}
	return m
}

// product lays one in by the document's words, each row for itself.
func (m *model) product(x, y float64) {
	infinite := math.IsInf(x, 0) || math.IsInf(y, 0)
	nought := x == 0 || y == 0
	neg := math.Signbit(x) != math.Signbit(y)
	switch {
	case x != x, y != y, infinite && nought:
		m.add(nan)
	case infinite && neg:
		m.add(-inf)
	case infinite:
		m.add(inf)
	case nought && neg:
		m.add(minus0)
	case nought:
		m.add(0)
	default:
		m.lay(sortOther, new(big.Rat).Mul(exact(x), exact(y)))
	}
}

func (m *model) take(x float64) api.Errno {
	s := sortOf(x)
	if m.n[s] == 0 {
		return api.ErrArg
	}
	m.n[s]--
	if s == sortOther {
		m.v.Sub(m.v, exact(x))
	}
	return api.OK
}

func (m *model) join(b *model) {
	for _, s := range []string{sortNaN, sortPlus, sortMinus, sortBelow, sortOther} {
		m.n[s] += b.n[s]
	}
	m.v.Add(m.v, b.v)
}

func (m *model) copy() *model {
	b := newModel()
	b.join(m)
	return b
}

func (m *model) count() int {
	n := 0
	for _, k := range m.n {
		n += k
	}
	return n
}

// total is the sum, its values' part divided by some number first.
func (m *model) total(by int64) answer {
	switch {
	case m.n[sortNaN] > 0, m.n[sortPlus] > 0 && m.n[sortMinus] > 0:
		return is(nan)
	case m.n[sortPlus] > 0:
		return is(inf)
	case m.n[sortMinus] > 0:
		return is(-inf)
	case m.v.Sign() != 0:
		return nearest(new(big.Rat).Quo(m.v, big.NewRat(by, 1)))
	case m.n[sortBelow] > 0 && m.n[sortBelow] == m.count():
		return is(minus0)
	}
	return is(0)
}

// variance goes by the mean, as the document says it.
func variance(l []float64, by int64) answer {
	m := newModel().add(l...)
	if m.n[sortNaN]+m.n[sortPlus]+m.n[sortMinus] > 0 {
		return is(nan)
	}
	mean := new(big.Rat).Quo(m.v, big.NewRat(int64(len(l)), 1))
	v := new(big.Rat)
	for _, x := range l {
		d := new(big.Rat).Sub(exact(x), mean)
		v.Add(v, d.Mul(d, d))
	}
	return nearest(v.Quo(v, big.NewRat(by, 1)))
}

func dotOf(a, b []float64) answer {
	m := newModel()
	for i := range a {
		m.product(a[i], b[i])
	}
	return m.total(1)
}

// told is the number, with its sign and its NaN's bits, and the error.
func (a answer) told() string {
	return strconv.FormatFloat(a.x, 'x', -1, 64) + " (" + strconv.FormatUint(math.Float64bits(a.x), 16) + "), error " + strconv.Itoa(int(a.err))
}

func short(l []float64) string {
	var s []string
	for _, x := range l[:min(len(l), 12)] {
		s = append(s, strconv.FormatFloat(x, 'x', -1, 64))
	}
	if len(l) > 12 {
		s = append(s, "..", strconv.Itoa(len(l)))
	}
	return strings.Join(s, " ")
}

func want(t *testing.T, what string, got, want answer, lists ...[]float64) {
	t.Helper()
	if got.same(want) {
		return
	}
	for _, l := range lists {
		what += " (" + short(l) + ")"
	}
	t.Errorf("%s: %s; want %s", what, got.told(), want.told())
}

func total(a *sums.Acc) answer { return of(a.Total()) }
func sum(l ...float64) answer  { return of(sums.Sum(l)) }

// acc is one that has these numbers.
func acc(l ...float64) *sums.Acc {
	a := sums.New()
	a.Add(l...)
	return a
}

// held is what an Acc that was laid in pairs of factors tells.
func held(pairs ...float64) answer {
	a := sums.New()
	for i := 0; i < len(pairs); i += 2 {
		a.Product(pairs[i], pairs[i+1])
	}
	return total(a)
}

// The sum of some terms: what stands in the document, and each row of its words.
func TestSumRows(t *testing.T) {
	for _, c := range []struct {
		l []float64
		a answer
	}{
		{nil, is(0)}, {list(), is(0)}, {list(0), is(0)}, {list(minus0), is(minus0)}, {list(5), is(5)}, {list(-5), is(-5)}, {list(least), is(least)}, {list(-greatest), is(-greatest)},
		{list(minus0, minus0), is(minus0)}, {list(minus0, minus0, minus0), is(minus0)}, {list(minus0, 0), is(0)}, {list(0, minus0), is(0)}, {list(0, 0), is(0)}, {list(minus0, 0, minus0), is(0)},
		{list(minus0, 1), is(1)}, {list(-1, minus0), is(-1)}, {list(minus0, 1, -1), is(0)}, {list(1, -1), is(0)}, {list(-1, 1), is(0)}, {list(least, -least, minus0), is(0)}, {list(1, 2, -3), is(0)},
		{list(greatest, least, -greatest, -least), is(0)},
		{times(10, 0.1), is(1)}, {list(1e100, 1, -1e100), is(1)}, {list(1e16, 1, -1e16), is(1)}, {list(0.1, 0.2), is(0.30000000000000004)}, {list(0.1, 0.2, -0.3), is(0x1p-55)},
		{list(greatest, least, -greatest), is(least)}, {list(-greatest, -least, greatest), is(-least)},
		{list(inf), is(inf)}, {list(-inf), is(-inf)}, {list(inf, inf), is(inf)}, {list(-inf, -inf, 1), is(-inf)}, {list(inf, -inf), is(nan)}, {list(-inf, 5, inf), is(nan)},
		{list(inf, minus0), is(inf)}, {list(greatest, inf), is(inf)}, {list(greatest, greatest, inf), is(inf)}, {list(greatest, greatest, -inf), is(-inf)}, {list(-greatest, inf, -greatest), is(inf)},
		{list(nan), is(nan)}, {list(nan, 1), is(nan)}, {list(1, nan), is(nan)}, {list(nan, inf), is(nan)}, {list(-inf, nan), is(nan)}, {list(nan, minus0), is(nan)}, {list(nan, greatest, greatest), is(nan)}, {list(inf, -inf, greatest, greatest), is(nan)},
	} {
		want(t, "Sum", of(sums.Sum(c.l)), c.a, c.l)
		want(t, "Total", total(acc(c.l...)), c.a, c.l)
	}
	for _, x := range nans() {
		want(t, "Sum of a NaN", sum(x), is(nan))
		want(t, "Sum of a NaN and more", sum(1, x, inf, greatest, greatest), is(nan))
		want(t, "product of a NaN", held(x, 0), is(nan))
		want(t, "Mean of a NaN", of(sums.Mean(list(x, 2))), is(nan))
		want(t, "Variance of a NaN", of(sums.Variance(list(x, 2), true)), is(nan))
	}
}

// Values just halfway between two numbers, and just beside that.
func TestHalfway(t *testing.T) {
	for _, c := range []struct {
		l []float64
		a answer
	}{
		{list(1, 0x1p-53), is(1)}, {list(1, 0x1p-53, least), is(1 + 0x1p-52)}, {list(1, 0x1p-53, -least), is(1)},
		{list(next(1), 0x1p-53), is(1 + 0x1p-51)}, {list(next(1), 0x1p-53, -least), is(next(1))}, {list(next(1), 0x1p-53, least), is(1 + 0x1p-51)},
		{list(1, -0x1p-54), is(1)}, {list(1, -0x1p-54, -least), is(prev(1))}, {list(1, -0x1p-54, least), is(1)},
		{list(-1, -0x1p-53), is(-1)}, {list(-1, -0x1p-53, -least), is(-1 - 0x1p-52)}, {list(-1, -0x1p-53, least), is(-1)},
		{list(0x1p53, 1), is(0x1p53)}, {list(0x1p53, 1, least), is(0x1p53 + 2)}, {list(0x1p53+2, 1), is(0x1p53 + 4)}, {list(0x1p53+2, 1, -least), is(0x1p53 + 2)},
		{list(prev(normal), least), is(normal)}, {list(normal, -least), is(prev(normal))}, {list(0x1p-1021, least), is(0x1p-1021)}, {list(0x1p-1021, least, least), is(next(0x1p-1021))}, {list(next(0x1p-1021), least), is(0x1p-1021 + 4*least)},
		{list(0x1p1000, -0x1p1000, 1, 0x1p-53, least), is(1 + 0x1p-52)},
	} {
		want(t, "Sum", of(sums.Sum(c.l)), c.a, c.l)
		slices.Reverse(c.l)
		want(t, "Sum, the other way round", of(sums.Sum(c.l)), c.a, c.l)
	}
}

// Halves among the subnormal numbers, which only products have.
func TestHalfwayBelow(t *testing.T) {
	for _, c := range []struct {
		pairs []float64
		a     answer
	}{
		{list(least, 0.5), is(0)}, {list(least, 0.5, least, least), is(least)}, {list(least, 0.5, least, -least), is(0)},
		{list(least, -0.5), is(minus0)}, {list(least, -0.5, least, -least), is(-least)}, {list(-least, 0.5, least, least), is(minus0)},
		{list(least, 1.5), is(2 * least)}, {list(least, 1.5, least, -least), is(least)}, {list(least, 2.5), is(2 * least)}, {list(least, 2.5, least, least), is(3 * least)},
		{list(normal, 1, least, -0.5), is(normal)}, {list(normal, 1, least, -0.5, least, -least), is(prev(normal))}, {list(prev(normal), 1, least, 0.5), is(normal)}, {list(prev(normal), 1, least, 0.5, -least, least), is(prev(normal))},
		{list(normal, 1, least, 0.5), is(normal)}, {list(normal, 1, least, 0.5, least, least), is(next(normal))}, {list(-normal, 1, least, -0.5), is(-normal)},
		{list(least, 0.75, -least, 0.25), is(0)}, {list(least, 0.75, -least, 0.25, least, least), is(least)}, {list(least, 0.25, -least, 0.75), is(minus0)},
	} {
		want(t, "products", held(c.pairs...), c.a, c.pairs)
	}
}

// What is over, what comes back from it, just Over and just not.
func TestOver(t *testing.T) {
	over := bad(api.ErrOver)
	for _, c := range []struct {
		l []float64
		a answer
	}{
		{list(greatest, greatest), over}, {list(-greatest, -greatest), over}, {list(greatest, greatest, -greatest), is(greatest)}, {list(-greatest, -greatest, greatest), is(-greatest)}, {list(greatest, greatest, -greatest, -greatest), is(0)},
		{list(greatest, overHalf), over}, {list(greatest, overHalf, -least), is(greatest)}, {list(greatest, overHalf, least), over}, {list(greatest, prev(overHalf)), is(greatest)}, {list(greatest, next(overHalf)), over},
		{list(-greatest, -overHalf), over}, {list(-greatest, -overHalf, least), is(-greatest)}, {list(-greatest, -prev(overHalf)), is(-greatest)},
		{list(0x1p1023, 0x1p1023), over}, {list(0x1p1023, prev(0x1p1023)), over}, {list(0x1p1023, prev(prev(0x1p1023))), is(greatest)}, {list(0x1p1023, prev(0x1p1023), -least), is(greatest)}, {list(greatest, 1), is(greatest)},
	} {
		want(t, "Sum", of(sums.Sum(c.l)), c.a, c.l)
		want(t, "Total", total(acc(c.l...)), c.a, c.l)
		want(t, "Dot", of(sums.Dot(c.l, times(len(c.l), 1))), c.a, c.l)
	}
	a := acc(times(1000, greatest)...)
	want(t, "Total of 1000 greatest ones", total(a), over)
	want(t, "Total once more", total(a), over)
	for range 999 {
		if e := a.Take(greatest); e != api.OK {
			t.Fatal("Take of one of them:", e)
		}
	}
	want(t, "Total of the one that is left", total(a), is(greatest))
	for _, c := range []struct {
		pairs []float64
		a     answer
	}{
		{list(greatest, greatest), over}, {list(greatest, -greatest), over}, {list(greatest, greatest, -greatest, greatest), is(0)}, {list(greatest, greatest, greatest, -greatest, least, least), is(0)}, {list(greatest, greatest, greatest, -greatest, least, -least), is(minus0)},
		{list(greatest, greatest, greatest, -greatest, 3, 5), is(15)}, {list(0x1p600, 0x1p424), over}, {list(0x1p600, 0x1p423), is(0x1p1023)}, {list(greatest, 1, overHalf, 1), over}, {list(greatest, 1, overHalf, 1, least, -least), is(greatest)},
		{list(0x1p1000, 0x1p1000, inf, 1), is(inf)}, {list(0x1p1000, 0x1p1000, -inf, 1), is(-inf)}, {list(0x1p1000, 0x1p1000, nan, 1), is(nan)},
	} {
		want(t, "products", held(c.pairs...), c.a, c.pairs)
	}
}

// Products of every sort of both factors, one alone and beside another term.
func TestProducts(t *testing.T) {
	for _, x := range edges() {
		for _, y := range edges() {
			a, m := sums.New(), newModel()
			a.Product(x, y)
			m.product(x, y)
			want(t, "Product", total(a), m.total(1), list(x, y))
			if a.Count() != 1 {
				t.Error("Product: Count", a.Count())
			}
			want(t, "Dot", of(sums.Dot(list(x), list(y))), m.total(1), list(x, y))
			want(t, "Dot the other way round", of(sums.Dot(list(y), list(x))), m.total(1), list(x, y))
			a.Add(minus0)
			m.add(minus0)
			want(t, "Product and -0", total(a), m.total(1), list(x, y))
			a.Product(-0.75, least)
			m.product(-0.75, least)
			want(t, "Product, -0 and a small one", total(a), m.total(1), list(x, y))
		}
	}
	for _, c := range []struct {
		pairs []float64
		a     answer
	}{
		{list(-least, least), is(minus0)}, {list(least, least), is(0)}, {list(-least, -least), is(0)}, {list(0, -1), is(minus0)}, {list(minus0, -1), is(0)}, {list(minus0, minus0), is(0)}, {list(0, minus0), is(minus0)},
		{list(0, inf), is(nan)}, {list(-inf, minus0), is(nan)}, {list(-inf, 2), is(-inf)}, {list(-inf, -2), is(inf)}, {list(inf, -inf), is(-inf)}, {list(inf, least), is(inf)}, {list(0, nan), is(nan)},
		{list(minus0, 1, 0, -1), is(minus0)}, {list(minus0, 1, 0, 1), is(0)}, {list(-least, least, minus0, 1), is(minus0)}, {list(-least, least, least, least), is(0)}, {list(-least, least, least, least, minus0, 1), is(0)},
		{list(inf, 1, -inf, 1), is(nan)}, {list(inf, 1, inf, -1), is(nan)}, {list(inf, 1, -inf, -1), is(inf)},
		{list(next(1), prev(1)), is(1)}, {list(next(1), prev(1), -1, 1), is(0x1p-53 - 0x1p-105)}, {list(3, 7, -3, 7), is(0)}, {list(0.1, 10), is(1)}, {list(0.1, 10, -1, 1), is(0x1p-54)},
	} {
		want(t, "products", held(c.pairs...), c.a, c.pairs)
	}
}

// P8.1: what is laid in is there, whichever way; Count behind each.
func TestAcc(t *testing.T) {
	a := sums.New()
	steps := []struct {
		do    func()
		count int
		a     answer
	}{
		{func() {}, 0, is(0)},
		{func() { a.Add() }, 0, is(0)},
		{func() { a.Add(minus0) }, 1, is(minus0)},
		{func() { a.Product(minus0, 5) }, 2, is(minus0)},
		{func() { a.Add(1, 0x1p-60) }, 4, is(1)},
		{func() { a.Add(list(-1)...) }, 5, is(0x1p-60)},
		{func() { a.Add(nil...) }, 5, is(0x1p-60)},
		{func() { a.Product(2, 3) }, 6, is(6)},
		{func() { a.Join(nil) }, 6, is(6)},
		{func() { a.Join(sums.New()) }, 6, is(6)},
		{func() { a.Join(acc(minus0, 4)) }, 8, is(10)},
		{func() { a.Join(a) }, 16, is(20)},
		{func() { a.Add(greatest, greatest) }, 18, bad(api.ErrOver)},
		{func() { a.Add(inf) }, 19, is(inf)},
		{func() { a.Join(a) }, 38, is(inf)},
		{func() { a.Product(-1, inf) }, 39, is(nan)},
		{func() { a.Add(nan) }, 40, is(nan)},
	}
	for i, s := range steps {
		s.do()
		want(t, "step "+strconv.Itoa(i), total(a), s.a)
		want(t, "step "+strconv.Itoa(i)+" asked again", total(a), s.a)
		if a.Count() != s.count {
			t.Errorf("step %d: Count %d; want %d", i, a.Count(), s.count)
		}
	}
	var made sums.Acc
	made.Add(2)
	made.Join(acc(3))
	want(t, "an Acc that New didn't make", total(&made), is(5))
	if made.Count() != 2 || made.Copy().Count() != 2 {
		t.Error("an Acc that New didn't make: Count", made.Count())
	}
}

// P8.1: Join takes over what is there at that time, and leaves the other one as it was.
func TestJoin(t *testing.T) {
	for _, c := range []struct{ a, b []float64 }{
		{nil, nil}, {nil, list(minus0)}, {list(minus0), list(minus0)}, {list(minus0), list(0)}, {list(1), list(-1)}, {list(1), list(0x1p-1074)}, {list(least), list(greatest)}, {list(greatest), list(greatest)},
		{list(inf), list(-inf)}, {list(inf), list(greatest)}, {list(nan), list(1)}, {list(1, 0x1p-53), list(least)}, {list(1e300, -7), list(1e-300, 0.1)}, {list(3), nil},
	} {
		a, b := acc(c.a...), acc(c.b...)
		ofA, ofB := newModel().add(c.a...), newModel().add(c.b...)
		a.Join(b)
		both := ofA.copy()
		both.join(ofB)
		want(t, "Join", total(a), both.total(1), c.a, c.b)
		want(t, "Join: the other one", total(b), ofB.total(1), c.a, c.b)
		if a.Count() != len(c.a)+len(c.b) || b.Count() != len(c.b) {
			t.Error("Join: Count", a.Count(), b.Count())
		}
		b.Add(5, minus0)
		ofB.add(5, minus0)
		want(t, "Join: what the other one gets later", total(a), both.total(1), c.a, c.b)
		a.Add(0x1p-900, 7)
		want(t, "Join: what the first one gets later", total(b), ofB.total(1), c.a, c.b)
		both.add(0x1p-900, 7)
		want(t, "Join, and more", total(a), both.total(1), c.a, c.b)
		a.Join(a)
		twice := both.copy()
		twice.join(both)
		want(t, "Join with itself", total(a), twice.total(1), c.a, c.b)
		if a.Count() != twice.count() {
			t.Error("Join with itself: Count", a.Count())
		}
	}
}

// P8.1: Accs that are joined with themselves over and over have more terms than an int counts, and still all of them.
func TestJoinMany(t *testing.T) {
	doubled := func(n int, l ...float64) *sums.Acc {
		a := acc(l...)
		for range n {
			a.Join(a)
		}
		return a
	}
	if n := doubled(40, 1, 2, minus0).Count(); n != 3<<40 {
		t.Error("Count of 3 2^40:", n)
	}
	if n := doubled(61, 1, 2, nan).Count(); n != 3<<61 {
		t.Error("Count of 3 2^61:", n)
	}
	for _, n := range []int{31, 32, 62, 63, 64, 65, 128, 200} {
		want(t, "-0 2^n times", total(doubled(n, minus0)), is(minus0))
		want(t, "infinity 2^n times", total(doubled(n, inf, 1)), is(inf))
		want(t, "-infinity 2^n times", total(doubled(n, -inf)), is(-inf))
		want(t, "the NaN 2^n times", total(doubled(n, nan)), is(nan))
		want(t, "+0 2^n times, and -0", total(doubled(n, 0, minus0)), is(0))
		want(t, "2^-200 2^n times", total(doubled(n, 0x1p-200)), is(math.Ldexp(1, n-200)))
		a := doubled(n, minus0, 3, -3)
		for _, x := range []float64{minus0, 3} {
			if e := a.Take(x); e != api.OK {
				t.Error("Take of one of 2^n:", e)
			}
		}
		want(t, "one less of 2^n", total(a), is(-3))
	}
	a := doubled(63, 1)
	a.Take(1)
	if n := a.Count(); n != math.MaxInt64 {
		t.Error("Count of 2^63 - 1:", n)
	}
	if n := doubled(200, 1, nan).Count(); n != math.MaxInt {
		t.Error("Count of more than an int holds:", n)
	}
	for _, n := range []int{2097, 2098, 3071, 3072, 5169, 5170, 5171, 12000, 30000} {
		a, b := doubled(n, least), doubled(n, -least)
		wanted := bad(api.ErrOver)
		if n < 2098 {
			wanted = is(0x1p1023)
		}
		want(t, "2^-1074 2^n times", total(a), wanted)
		a.Join(b)
		want(t, "and as many opposite ones", total(a), is(0))
		a.Add(5)
		want(t, "and 5", total(a), is(5))
		b.Join(b)
		b.Join(a)
		b.Take(5)
		if n > 2097 {
			want(t, "far below", total(b), bad(api.ErrOver))
		}
	}
	a = doubled(9000, 1)
	b := doubled(9000, -1)
	b.Product(least, least)
	a.Join(b)
	a.Product(least, 0.5)
	want(t, "what is left far below", total(a), is(least))
}

// P8.1: a Copy and what it was made of have nothing to do with each other.
func TestCopy(t *testing.T) {
	for _, l := range [][]float64{nil, list(minus0), list(1, 0.1, least), list(inf), list(nan, 3), list(greatest, greatest), list(1, 1, 1, -inf)} {
		a := acc(l...)
		m := newModel().add(l...)
		b := a.Copy()
		if b == a || b == nil {
			t.Fatal("Copy: not another one")
		}
		want(t, "Copy", total(b), m.total(1), l)
		b.Add(7, 0x1p-1000, inf)
		b.Product(3, least)
		b.Take(1)
		b.Join(b)
		want(t, "Copy: the first one behind it", total(a), m.total(1), l)
		if a.Count() != len(l) {
			t.Error("Copy: Count of the first one", a.Count(), len(l))
		}
		c := a.Copy()
		a.Add(8, 0x1p-1000)
		a.Take(8)
		a.Add(-inf)
		want(t, "Copy: the second one behind the first one's", total(c), m.total(1), l)
		if c.Count() != len(l) {
			t.Error("Copy: Count of the second one", c.Count(), len(l))
		}
	}
	// An Acc that has spare room of its own: neither writes into the other one's.
	a := acc(greatest, least)
	a.Take(greatest)
	b, c := a.Copy(), a.Copy()
	for i := range 50 {
		x := math.Ldexp(1, 20*i-500)
		b.Add(x)
		c.Add(-x)
		a.Add(3 * x)
	}
	b.Join(c)
	want(t, "Copies that are joined", total(b), is(2*least))
}

// P8.2: each sort is taken out for itself, till none is left.
func TestTake(t *testing.T) {
	kinds := [][]float64{nans(), {inf}, {-inf}, {minus0}, {0, 1, -1, least, -least, greatest, -greatest, 0.1}}
	for i, in := range kinds {
		for _, x := range in {
			for k, out := range kinds {
				for _, y := range out {
					a := acc(x, x)
					wanted := []api.Errno{api.ErrArg, api.ErrArg, api.ErrArg}
					counts := []int{2, 2, 2}
					if i == k {
						wanted = []api.Errno{api.OK, api.OK, api.ErrArg}
						counts = []int{1, 0, 0}
					}
					for n := range 3 {
						was := total(a)
						if e := a.Take(y); e != wanted[n] || a.Count() != counts[n] {
							t.Errorf("of twice %v: Take(%v) %d, Count %d; want %d, %d", x, y, e, a.Count(), wanted[n], counts[n])
						}
						if wanted[n] != api.OK {
							want(t, "Total behind a Take that is refused", total(a), was, list(x, y))
						}
					}
				}
			}
		}
	}
	a := acc(1, 0x1p-60)
	for _, s := range []struct {
		x     float64
		e     api.Errno
		count int
		a     answer
	}{
		{1, api.OK, 1, is(0x1p-60)}, {nan, api.ErrArg, 1, is(0x1p-60)}, {minus0, api.ErrArg, 1, is(0x1p-60)}, {inf, api.ErrArg, 1, is(0x1p-60)}, {-inf, api.ErrArg, 1, is(0x1p-60)},
		{5, api.OK, 0, is(-5)}, {0x1p-60, api.ErrArg, 0, is(-5)}, {0, api.ErrArg, 0, is(-5)}, {5, api.ErrArg, 0, is(-5)},
	} {
		if e := a.Take(s.x); e != s.e || a.Count() != s.count {
			t.Errorf("Take(%v): %d, Count %d; want %d, %d", s.x, e, a.Count(), s.e, s.count)
		}
		want(t, "Total behind a Take", total(a), s.a, list(s.x))
	}
}

// P8.2: what is left counts, terms or none; the sorts that are gone count no more.
func TestTaken(t *testing.T) {
	for _, c := range []struct {
		in, out []float64
		a       answer
	}{
		{list(nan, 1), list(nan), is(1)}, {list(nan, nan, 1), list(nan), is(nan)}, {list(inf, -inf, 2), list(inf), is(-inf)}, {list(inf, -inf, 2), list(-inf), is(inf)}, {list(inf, -inf, 2), list(inf, -inf), is(2)},
		{list(inf, greatest, greatest), list(inf), bad(api.ErrOver)}, {list(greatest, greatest), list(greatest), is(greatest)}, {list(greatest), list(-greatest), bad(api.ErrOver)},
		{list(minus0, 1), list(1), is(minus0)}, {list(minus0, 0), list(0), is(minus0)}, {list(minus0, 0), list(minus0), is(0)}, {list(minus0, minus0, 0), list(0, minus0), is(minus0)}, {list(minus0), list(minus0), is(0)},
		{list(minus0, 5), list(3), is(2)}, {list(minus0, 3), list(5), is(-2)}, {list(0, 1), list(1), is(0)}, {list(1), list(1), is(0)}, {list(0), list(5), is(-5)}, {list(5), list(0), is(5)}, {list(minus0, 1, 1), list(2), is(0)}, {list(minus0, 1, 1), list(2, 0), is(minus0)},
		{list(1, 0x1p-53, least), list(least), is(1)}, {list(1, least), list(1), is(least)}, {list(1e300, 1e-300), list(1e300), is(1e-300)}, {list(-1, -2), list(-1), is(-2)}, {list(1), list(-least), is(1)}, {list(2, 1), list(0.1), is(2.9)},
	} {
		a := acc(c.in...)
		for _, x := range c.out {
			if e := a.Take(x); e != api.OK {
				t.Error("Take:", e, short(c.in), x)
			}
		}
		want(t, "taken out", total(a), c.a, c.in, c.out)
		if a.Count() != len(c.in)-len(c.out) {
			t.Error("taken out: Count", a.Count())
		}
	}
	a := sums.New()
	a.Product(minus0, 3)
	a.Product(inf, 2)
	a.Product(0.1, 0.1)
	for _, x := range list(minus0, inf, 0.01) {
		if e := a.Take(x); e != api.OK {
			t.Error("Take of a product's sort:", e, x)
		}
	}
	left := new(big.Rat).Mul(exact(0.1), exact(0.1))
	want(t, "what a product leaves", total(a), nearest(left.Sub(left, exact(0.01))))
	if a.Count() != 0 || a.Take(0) != api.ErrArg || a.Take(minus0) != api.ErrArg || a.Take(inf) != api.ErrArg {
		t.Error("none is left of products")
	}
}

// All that an Acc is told, at random, held against the model.
func TestAccAtRandom(t *testing.T) {
	r := rand.New(rand.NewSource(8))
	for range 300 {
		a, b := sums.New(), sums.New()
		m, k := newModel(), newModel()
		for range 40 {
			x, y := anyOf(r), anyOf(r)
			switch r.Intn(8) {
			case 0, 1:
				a.Add(x)
				m.add(x)
			case 2:
				a.Add(x, y, -x)
				m.add(x, y, -x)
			case 3:
				a.Product(x, y)
				m.product(x, y)
			case 4:
				if e, wanted := a.Take(x), m.take(x); e != wanted {
					t.Errorf("Take(%v): %d; want %d", x, e, wanted)
				}
			case 5:
				a.Join(b)
				m.join(k)
			case 6:
				a, b, m, k = b, a, k, m
			case 7:
				if r.Intn(4) == 0 {
					b, k = a.Copy(), m.copy()
				}
			}
			want(t, "at random", total(a), m.total(1))
			want(t, "at random, the other one", total(b), k.total(1))
			if a.Count() != m.count() || b.Count() != k.count() {
				t.Fatal("at random: Count", a.Count(), m.count(), b.Count(), k.count())
			}
		}
	}
}

// P8.3: lists against exact arithmetic.
func TestListsAtRandom(t *testing.T) {
	r := rand.New(rand.NewSource(83))
	for range 1500 {
		n := 1 + r.Intn(9)
		l, k := someList(r, n), someList(r, n)
		if r.Intn(6) == 0 {
			l[r.Intn(n)] = anyOf(r)
		}
		want(t, "Sum", of(sums.Sum(l)), newModel().add(l...).total(1), l)
		want(t, "Dot", of(sums.Dot(l, k)), dotOf(l, k), l, k)
		want(t, "Squares", of(sums.Squares(l)), dotOf(l, l), l)
		want(t, "Mean", of(sums.Mean(l)), newModel().add(l...).total(int64(n)), l)
		want(t, "Variance", of(sums.Variance(l, false)), variance(l, int64(n)), l)
		if n > 1 {
			want(t, "Variance of a sample", of(sums.Variance(l, true)), variance(l, int64(n-1)), l)
		}
	}
}

func TestDotAndSquares(t *testing.T) {
	over, arg := bad(api.ErrOver), bad(api.ErrArg)
	for _, c := range []struct {
		a, b []float64
		x    answer
	}{
		{nil, nil, is(0)}, {list(), nil, is(0)}, {list(), list(), is(0)}, {list(2), list(3), is(6)}, {list(1, 2, 3), list(4, -5, 6), is(12)}, {list(1, 2), list(2, -1), is(0)},
		{list(1, 2), list(3), arg}, {list(1), list(2, 3), arg}, {nil, list(1), arg}, {list(1), nil, arg}, {list(nan), list(1, 2), arg}, {list(greatest, greatest), list(greatest), arg},
		{list(least), list(0.5), is(0)}, {list(least, -least), list(0.75, 0.25), is(0)}, {list(-least), list(least), is(minus0)}, {list(0), list(inf), is(nan)}, {list(1, 0), list(inf, -inf), is(nan)},
		{list(minus0, 0), list(1, -1), is(minus0)}, {list(minus0, 0), list(1, 1), is(0)}, {list(inf, inf), list(1, -1), is(nan)}, {list(inf, 1), list(2, greatest), is(inf)}, {list(1, -inf), list(2, greatest), is(-inf)},
		{list(greatest), list(2), over}, {list(greatest, greatest), list(greatest, -greatest), is(0)}, {list(greatest, -greatest, 5), list(greatest, greatest, 7), is(35)}, {list(-greatest, 1), list(greatest, inf), is(inf)},
	} {
		want(t, "Dot", of(sums.Dot(c.a, c.b)), c.x, c.a, c.b)
		want(t, "Dot, the other way round", of(sums.Dot(c.b, c.a)), c.x, c.b, c.a)
	}
	for _, c := range []struct {
		l []float64
		x answer
	}{
		{nil, is(0)}, {list(3, 4), is(25)}, {list(-3, 4, minus0), is(25)}, {list(minus0), is(0)}, {list(minus0, minus0), is(0)}, {list(0x1p600), over}, {list(-0x1p600), over}, {list(0x1p511, 0x1p511), is(0x1p1023)}, {list(0x1p511, 0x1p511, 0x1p511, 0x1p511), over},
		{list(least), is(0)}, {list(-least, least), is(0)}, {list(0x1p-537), is(least)}, {list(0x1p-538, 0x1p-538), is(0)}, {list(0x1p-538, 0x1p-538, least), is(least)}, {list(inf), is(inf)}, {list(-inf, inf), is(inf)}, {list(inf, greatest), is(inf)}, {list(nan, inf), is(nan)}, {list(0.1), is(0.010000000000000002)},
	} {
		want(t, "Squares", of(sums.Squares(c.l)), c.x, c.l)
	}
}

// P8.3: as many as may be, and one more, ahead of all else.
func TestLong(t *testing.T) {
	long := bad(api.ErrLong)
	for _, x := range []float64{0, 1, minus0, inf, nan, greatest} {
		l := times(api.MaxList+1, x)
		want(t, "Sum", of(sums.Sum(l)), long)
		want(t, "Squares", of(sums.Squares(l)), long)
		want(t, "Mean", of(sums.Mean(l)), long)
		want(t, "Variance", of(sums.Variance(l, false)), long)
		want(t, "Variance of a sample", of(sums.Variance(l, true)), long)
		want(t, "Dot", of(sums.Dot(l, l)), long)
		for _, k := range [][]float64{nil, list(1), l[:api.MaxList]} {
			want(t, "Dot of a long one and another", of(sums.Dot(l, k)), long)
			want(t, "Dot of another and a long one", of(sums.Dot(k, l)), long)
		}
	}
	most := times(api.MaxList, 0.1)
	nearestOf := func(by int64, factors ...float64) answer {
		v := big.NewRat(api.MaxList, by)
		for _, x := range factors {
			v.Mul(v, exact(x))
		}
		return nearest(v)
	}
	want(t, "Sum", of(sums.Sum(most)), nearestOf(1, 0.1))
	want(t, "Dot", of(sums.Dot(most, times(api.MaxList, 0.3))), nearestOf(1, 0.1, 0.3))
	want(t, "Squares", of(sums.Squares(most)), nearestOf(1, 0.1, 0.1))
	want(t, "Mean", of(sums.Mean(most)), is(0.1))
	want(t, "Variance", of(sums.Variance(most, false)), is(0))
	most[7] = 1.1
	d := new(big.Rat).Sub(exact(1.1), exact(0.1)) // of n numbers one is d off: d^2 (n-1)/n^2, of a sample d^2 1/n
	d.Mul(d, d)
	ofSample := new(big.Rat).Quo(d, big.NewRat(api.MaxList, 1))
	want(t, "Variance of a sample", of(sums.Variance(most, true)), nearest(ofSample))
	want(t, "Variance", of(sums.Variance(most, false)), nearest(d.Mul(ofSample, big.NewRat(api.MaxList-1, api.MaxList))))
	want(t, "Dot of one less", of(sums.Dot(most, most[:api.MaxList-1])), bad(api.ErrArg))
	want(t, "Mean of the greatest", of(sums.Mean(times(api.MaxList, greatest))), is(greatest))
	want(t, "Mean of the least", of(sums.Mean(times(api.MaxList, -least))), is(-least))
	want(t, "Sum of the greatest", of(sums.Sum(times(api.MaxList, greatest))), bad(api.ErrOver))
	a := acc(times(api.MaxList+1, 1)...)
	want(t, "Add has no such end", total(a), is(api.MaxList+1))
	if a.Count() != api.MaxList+1 {
		t.Error("Add has no such end: Count", a.Count())
	}
}

func TestMean(t *testing.T) {
	for _, c := range []struct {
		l []float64
		x answer
	}{
		{nil, bad(api.ErrEmpty)}, {list(), bad(api.ErrEmpty)}, {list(7), is(7)}, {list(0.1), is(0.1)}, {list(1, 2), is(1.5)}, {list(1, 1, 2), is(0x1.5555555555555p+0)}, {list(1, 2, 2), is(0x1.aaaaaaaaaaaabp+0)}, {list(-1, -1, -2), is(-0x1.5555555555555p+0)},
		{list(greatest, greatest), is(greatest)}, {list(greatest, greatest, greatest), is(greatest)}, {list(-greatest, -greatest), is(-greatest)}, {list(greatest, prev(greatest)), is(prev(greatest))}, {list(greatest, 0x1p1023), is(0x1.8p+1023)}, {list(greatest, 0x1p1023, -least), is(0x1.fffffffffffffp+1022)}, {list(greatest, -greatest), is(0)}, {list(greatest, -greatest, 3), is(1)},
		{list(minus0), is(minus0)}, {list(minus0, minus0), is(minus0)}, {list(minus0, 0), is(0)}, {list(0), is(0)}, {list(minus0, 1), is(0.5)}, {list(1, -1), is(0)}, {list(1, -1, minus0), is(0)}, {list(1, 2, -3), is(0)},
		{list(least, 0), is(0)}, {list(least, minus0), is(0)}, {list(-least, 0), is(minus0)}, {list(-least, 0, 0), is(minus0)}, {list(least, least, 0), is(least)}, {list(-least, 2*least, least, least), is(least)}, {list(3*least, 0), is(2 * least)}, {list(3*least, 2*least), is(2 * least)}, {list(normal, prev(normal)), is(normal)},
		{list(1, inf), is(inf)}, {list(-inf), is(-inf)}, {list(-inf, greatest, greatest), is(-inf)}, {list(inf, -inf), is(nan)}, {list(nan), is(nan)}, {list(1, nan, inf), is(nan)},
		{list(1, next(1)), is(1)}, {list(next(1), 1+0x1p-51), is(1 + 0x1p-51)}, {times(10, 0.1), is(0.1)}, {list(1e16, 1, 1, -1e16), is(0.5)},
	} {
		want(t, "Mean", of(sums.Mean(c.l)), c.x, c.l)
	}
}

func TestVariance(t *testing.T) {
	over := bad(api.ErrOver)
	for _, c := range []struct {
		l               []float64
		whole, ofSample answer
	}{
		{nil, bad(api.ErrEmpty), bad(api.ErrEmpty)}, {list(), bad(api.ErrEmpty), bad(api.ErrEmpty)},
		{list(5), is(0), bad(api.ErrDiv)}, {list(minus0), is(0), bad(api.ErrDiv)}, {list(greatest), is(0), bad(api.ErrDiv)}, {list(nan), is(nan), bad(api.ErrDiv)}, {list(inf), is(nan), bad(api.ErrDiv)}, {list(-inf), is(nan), bad(api.ErrDiv)},
		{list(1, 3), is(1), is(2)}, {list(3, 1), is(1), is(2)}, {list(-1, 1), is(1), is(2)}, {list(1, 2), is(0.25), is(0.5)}, {list(1, 2, 3, 4), is(1.25), is(0x1.aaaaaaaaaaaabp+0)}, {list(1, 2, 3), is(0x1.5555555555555p-1), is(1)},
		{list(5, 5), is(0), is(0)}, {list(-5, -5, -5), is(0), is(0)}, {times(10, 0.1), is(0), is(0)}, {list(minus0, 0), is(0), is(0)}, {list(minus0, minus0), is(0), is(0)}, {list(greatest, greatest, greatest), is(0), is(0)}, {list(-greatest, -greatest), is(0), is(0)}, {list(least, least), is(0), is(0)},
		{list(1, inf), is(nan), is(nan)}, {list(-inf, -inf), is(nan), is(nan)}, {list(nan, 1), is(nan), is(nan)}, {list(inf, -inf), is(nan), is(nan)}, {list(nan, greatest, -greatest), is(nan), is(nan)}, {list(greatest, -greatest, inf), is(nan), is(nan)},
		{list(greatest, -greatest), over, over}, {list(greatest, 0), over, over}, {list(greatest, prev(greatest)), over, over},
		{list(1e16, 1e16+2), is(1), is(2)}, {list(1e300, 1e300), is(0), is(0)}, {list(0x1p53, 0x1p53+2), is(1), is(2)}, {list(1, next(1)), is(0x1p-106), is(0x1p-105)}, {list(0x1p60, 0x1p60+256, 0x1p60+512, 0x1p60+768), is(81920), is(0x1.aaaaaaaaaaaabp+16)},
		{list(least, 0), is(0), is(0)}, {list(0x1p-537, 0), is(0), is(0)}, {list(0x1p-536, 0), is(least), is(2 * least)}, {list(0x1p-537, -0x1p-537), is(least), is(2 * least)},
		{list(0x1p511, -0x1p511), is(0x1p1022), is(0x1p1023)}, {list(0x1p512, 0), is(0x1p1022), is(0x1p1023)}, {list(0x1p512, -0x1p512), over, over}, {list(0x1p512, -0x1p511), is(0x1.2p+1023), over},
	} {
		want(t, "Variance", of(sums.Variance(c.l, false)), c.whole, c.l)
		want(t, "Variance of a sample", of(sums.Variance(c.l, true)), c.ofSample, c.l)
	}
}

// P8.6: neither the order counts nor how a list is cut.
func TestOrders(t *testing.T) {
	r := rand.New(rand.NewSource(86))
	for range 150 {
		n := 2 + r.Intn(40)
		l, k := someList(r, n), someList(r, n)
		for range r.Intn(3) {
			l[r.Intn(n)] = anyOf(r)
		}
		all := []answer{of(sums.Sum(l)), of(sums.Mean(l)), of(sums.Variance(l, true)), of(sums.Variance(l, false)), of(sums.Squares(l)), of(sums.Dot(l, k))}
		for range 4 {
			r.Shuffle(n, func(i, j int) { l[i], l[j], k[i], k[j] = l[j], l[i], k[j], k[i] })
			for i, x := range []answer{of(sums.Sum(l)), of(sums.Mean(l)), of(sums.Variance(l, true)), of(sums.Variance(l, false)), of(sums.Squares(l)), of(sums.Dot(l, k))} {
				want(t, "in another order", x, all[i], l)
			}
			cut := r.Intn(n + 1)
			a, b := acc(l[:cut]...), acc(l[cut:]...)
			c := a.Copy()
			a.Join(b)
			b.Join(c)
			want(t, "cut", total(a), all[0], l)
			want(t, "cut, the other way round", total(b), all[0], l)
		}
		var cuts []*sums.Acc
		for _, x := range l {
			cuts = append(cuts, acc(x))
		}
		for len(cuts) > 1 {
			i := r.Intn(len(cuts) - 1)
			cuts[i].Join(cuts[i+1])
			cuts = slices.Delete(cuts, i+1, i+2)
		}
		want(t, "joined out of ones", total(cuts[0]), all[0], l)
		if cuts[0].Count() != n {
			t.Error("joined out of ones: Count", cuts[0].Count(), n)
		}
	}
}

// P8.6: a number more and the same one less.
func TestMoreAndLess(t *testing.T) {
	for _, l := range [][]float64{nil, list(0), list(minus0), list(minus0, minus0), list(1), list(-0.1, 0.3), list(greatest), list(greatest, greatest), list(inf), list(-inf, 3), list(nan), list(least, greatest)} {
		a := acc(l...)
		was := total(a)
		for _, x := range edges() {
			a.Add(x)
			if e := a.Take(x); e != api.OK {
				t.Error("Take of what was just laid in:", e, x)
			}
			want(t, "one more and one less", total(a), was, l, list(x))
		}
		a.Add(edges()...)
		for _, x := range edges() {
			if e := a.Take(x); e != api.OK {
				t.Error("Take of one of many:", e, x)
			}
		}
		want(t, "many more and as many less", total(a), was, l)
		if a.Count() != len(l) {
			t.Error("many more and as many less: Count", a.Count(), len(l))
		}
	}
}

// P8.6: what else follows.
func TestFollows(t *testing.T) {
	r := rand.New(rand.NewSource(866))
	for _, x := range edges() {
		for _, y := range edges() {
			want(t, "Sum of two", sum(x, y), of(table.Add(x, y)), list(x, y))
		}
		if x-x == 0 {
			want(t, "Sum of a number and its opposite", sum(x, -x), is(0), list(x))
		}
		mean := x
		if x != x {
			mean = nan
		}
		for _, n := range []int{1, 2, 3, 7, 10, 49, 1000} {
			want(t, "Mean of n times one", of(sums.Mean(times(n, x))), is(mean), list(x))
		}
	}
	for range 3000 {
		x, y := some(r), some(r)
		want(t, "Sum of two", sum(x, y), of(table.Add(x, y)), list(x, y))
		want(t, "Mean of n times one", of(sums.Mean(times(1+r.Intn(30), x))), is(x), list(x))
		l := someList(r, r.Intn(12))
		var opposite []float64
		for _, x := range l {
			opposite = append(opposite, -x)
		}
		want(t, "numbers and their opposites", sum(append(opposite, l...)...), is(0), l)
		if len(l) > 0 {
			l[r.Intn(len(l))] = anyOf(r)
		}
		want(t, "Dot by ones", of(sums.Dot(l, times(len(l), 1))), of(sums.Sum(l)), l)
	}
	for range 500 {
		n := 2 + r.Intn(10)
		l := make([]float64, n)
		moved := make([]float64, n)
		by := float64(r.Intn(1<<50) - 1<<49)
		for i := range l {
			l[i] = float64(r.Intn(1<<40) - 1<<39)
			moved[i] = l[i] + by // exact: both are whole and far below 2^53
		}
		v, e := sums.Variance(l, n%2 == 0)
		if e != api.OK || math.Signbit(v) {
			t.Error("Variance below 0:", v, e)
		}
		want(t, "Variance of what is moved", of(sums.Variance(moved, n%2 == 0)), is(v), l)
	}
}

// R1: of a nil Acc.
func TestNil(t *testing.T) {
	var a *sums.Acc
	a.Add()
	a.Add(1, nan)
	a.Product(2, 3)
	a.Join(a)
	a.Join(acc(1))
	want(t, "Total of nil", total(a), bad(api.ErrArg))
	if a.Count() != 0 || a.Copy() != nil {
		t.Error("Count or Copy of nil")
	}
	for _, x := range edges() {
		if a.Take(x) != api.ErrArg {
			t.Error("Take of nil", x)
		}
	}
	b := acc(1, 2)
	a.Join(b)
	b.Join(a)
	want(t, "joined with nil", total(b), is(3))
	if b.Count() != 2 {
		t.Error("joined with nil: Count", b.Count())
	}
}

// R3: lists stay as they were, spare room too, and none is kept.
func TestListsStay(t *testing.T) {
	room := list(3, nan, minus0, 0.1, inf, least, -greatest, 5)
	room[1] = math.Float64frombits(0xFFF<<52 | 7)
	was := slices.Clone(room)
	other := slices.Clone(room)
	l, k := room[1:5:7], other[1:5]
	sums.Sum(l)
	sums.Dot(l, k)
	sums.Dot(l, l)
	sums.Squares(l)
	sums.Mean(l)
	sums.Variance(l, false)
	sums.Variance(l, true)
	a := sums.New()
	a.Add(l...)
	for i := range was {
		if math.Float64bits(room[i]) != math.Float64bits(was[i]) || math.Float64bits(other[i]) != math.Float64bits(was[i]) {
			t.Error("a list was changed at", i)
		}
	}
	l = list(1, 2, 3)
	a = acc(l...)
	l[0] = 100
	want(t, "a list that is changed later", total(a), is(6))
}
