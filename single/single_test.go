package single_test

import (
	"math"
	"math/big"
	"math/rand"
	"slices"
	"sort"
	"testing"

	"quadrille/api"
	"quadrille/dec"
	"quadrille/parts"
	"quadrille/round"
	"quadrille/single"
)

var (
	modes   = []int{api.Even, api.Away, api.Up, api.Down, api.Zero, api.Odd}
	wrong   = []int{0, -1, 7, 8, 1 << 32, 1<<32 + 1, math.MaxInt, math.MinInt}
	none    = api.Flags{}
	inexact = api.Flags{Inexact: true}
	over    = api.Flags{Inexact: true, Over: true}
	under   = api.Flags{Inexact: true, Under: true}
	inf     = math.Inf(1)
	minus0  = math.Copysign(0, -1)
	inf32   = float32(inf)
	zero32  = float32(minus0)
	nan32   = math.Float32frombits(0x7FC00000)
	most32  = math.Float32frombits(0x7F7FFFFF)
	least32 = math.Float32frombits(1)
)

func pat(x float64) uint64   { return math.Float64bits(x) }
func pat32(y float32) uint32 { return math.Float32bits(y) }

// two is 2^e, two32 that as a single.
func two(e int) float64   { return math.Ldexp(1, e) }
func two32(e int) float32 { return float32(two(e)) }

// opposite has the other sign, by its bit.
func opposite(x float64) float64   { return math.Float64frombits(pat(x) ^ 1<<63) }
func opposite32(y float32) float32 { return math.Float32frombits(pat32(y) ^ 1<<31) }

// nans are float64s that are no number of mathematics, nans32 such float32s.
func nans() []float64 {
	var l []float64
	for _, b := range []uint64{1, 2, 1<<51 - 1, 1 << 51, 1<<51 + 1, 1 << 28, 1 << 29, 1<<52 - 1} {
		l = append(l, math.Float64frombits(0x7FF<<52|b), math.Float64frombits(0xFFF<<52|b))
	}
	return l
}

func nans32() []float32 {
	var l []float32
	for _, b := range []uint32{1, 2, 1<<22 - 1, 1 << 22, 1<<22 + 1, 1<<23 - 1} {
		l = append(l, math.Float32frombits(0x7F8<<20|b), math.Float32frombits(0xFF8<<20|b))
	}
	return l
}

// edges32 are the bits of singles without a sign about the edges, the infinity too.
func edges32() []uint32 {
	one := pat32(1)
	return []uint32{0, 1, 2, 3, 4, 1<<22 - 1, 1 << 22, 1<<23 - 2, 1<<23 - 1, 1 << 23, 1<<23 + 1, 1<<24 - 1, 1 << 24, 1<<24 + 1, one - 2, one - 1, one, one + 1, one + 2, one + 1<<22, one + 23<<23, one + 24<<23, one + 24<<23 - 1, one + 24<<23 + 1, 0x7F000000, 0x7F7FFFFD, 0x7F7FFFFE, 0x7F7FFFFF, 0x7F800000}
}

// singles are those of the edges, of both signs, and some others; none is the NaN.
func singles() []float32 {
	r := rand.New(rand.NewSource(41))
	var l []float32
	for _, b := range edges32() {
		l = append(l, math.Float32frombits(b), math.Float32frombits(b|1<<31))
	}
	for range 200 {
		if y := math.Float32frombits(r.Uint32()); y == y {
			l = append(l, y)
		}
	}
	return l
}

// A kind of numbers, as the tests know it: the bits of its infinity, of its least normal number and of its sign, and the float64 of its bits.
type kind struct {
	infinity, normal, sign uint64
	top                    int
	float                  func(b uint64) float64
}

func kind64() kind {
	return kind{0x7FF0000000000000, 0x0010000000000000, 1 << 63, 1024, math.Float64frombits}
}

func kind32() kind {
	return kind{0x7F800000, 0x00800000, 1 << 31, 128, func(b uint64) float64 { return float64(math.Float32frombits(uint32(b))) }}
}

// worth is the value of bits without a sign; the infinity stands for the first number beyond the greatest one.
func (k kind) worth(b uint64) *big.Rat {
	if b == k.infinity {
		return new(big.Rat).SetInt(new(big.Int).Lsh(big.NewInt(1), uint(k.top)))
	}
	return new(big.Rat).SetFloat64(k.float(b))
}

type answer struct {
	bits  uint64
	flags api.Flags
}

// told rounds a value by the document's words: it looks for the two that are beside the value, and asks how the value stands against them and their middle. An answer for each mode.
func (k kind) told(v *big.Rat) map[int]answer {
	neg, v := v.Sign() < 0, new(big.Rat).Abs(v)
	low := uint64(sort.Search(int(k.infinity), func(i int) bool { return v.Cmp(k.worth(uint64(i)+1)) < 0 }))
	beyond := low == k.infinity
	exact := !beyond && v.Cmp(k.worth(low)) == 0
	l := map[int]answer{}
	for _, m := range modes {
		b, f := low, none
		if !beyond && !exact {
			middle := new(big.Rat).Add(k.worth(low), k.worth(low+1))
			if onward(m, neg, low%2 == 1, v.Cmp(middle.Mul(middle, big.NewRat(1, 2)))) {
				b++
			}
			f = api.Flags{Inexact: true, Under: v.Cmp(k.worth(k.normal)) < 0}
		}
		if b == k.infinity {
			f = over
			if m == api.Zero || m == api.Odd || m == api.Up && neg || m == api.Down && !neg {
				b--
			}
		}
		if neg {
			b |= k.sign
		}
		l[m] = answer{b, f}
	}
	return l
}

// onward tells whether of the two beside a value it is the one farther from nought; middle: how the value stands against their middle.
func onward(mode int, neg, odd bool, middle int) bool {
	switch mode {
	case api.Even:
		return middle > 0 || middle == 0 && odd
	case api.Away:
		return middle >= 0
	case api.Up:
		return !neg
	case api.Down:
		return neg
	case api.Odd:
		return !odd
	}
	return false
}

// rat is the value of a finite number.
func rat(x float64) *big.Rat { return new(big.Rat).SetFloat64(x) }

// value32 is the value of a finite single, out of its bits.
func value32(y float32) *big.Rat {
	b := pat32(y)
	m, e := int64(b&(1<<23-1)), int(b>>23&0xFF)
	if e == 0 {
		e = 1
	} else {
		m += 1 << 23
	}
	if b>>31 == 1 {
		m = -m
	}
	v := new(big.Rat).SetInt64(m)
	power := new(big.Int).Lsh(big.NewInt(1), uint(max(e-150, 150-e)))
	if e < 150 {
		return v.Quo(v, new(big.Rat).SetInt(power))
	}
	return v.Mul(v, new(big.Rat).SetInt(power))
}

func finite32(y float32) bool { return y-y == 0 }

// ---- P4.1

func TestNan(t *testing.T) {
	if b := pat32(single.Nan()); b != 0x7FC00000 {
		t.Errorf("%x", b)
	}
}

func TestOne(t *testing.T) {
	for _, y := range singles() {
		if b := pat32(single.One(y)); b != pat32(y) {
			t.Errorf("One(%x): %x", pat32(y), b)
		}
	}
	for _, y := range nans32() {
		if b := pat32(single.One(y)); b != 0x7FC00000 {
			t.Errorf("One(%x): %x", pat32(y), b)
		}
	}
}

func TestWiden(t *testing.T) {
	for _, y := range singles() {
		x := single.Widen(y)
		switch {
		case !finite32(y):
			if !math.IsInf(x, 0) || (x > 0) != (y > 0) {
				t.Errorf("Widen(%v): %v", y, x)
			}
		case x-x != 0 || rat(x).Cmp(value32(y)) != 0 || math.Signbit(x) != (pat32(y)>>31 == 1):
			t.Errorf("Widen(%x): %x", y, x)
		}
	}
	for _, y := range nans32() {
		if b := pat(single.Widen(y)); b != 0x7FF8000000000000 {
			t.Errorf("Widen(%x): %x", pat32(y), b)
		}
	}
	for y, x := range map[float32]float64{inf32: inf, -inf32: -inf, least32: two(-149), -most32: two(104) - two(128), 0.5: 0.5, 16777215: 16777215} {
		if got := single.Widen(y); got != x {
			t.Errorf("Widen(%v): %v", y, got)
		}
	}
}

func TestNext(t *testing.T) {
	for _, c := range [][2]float32{
		{-inf32, -most32}, {-most32, math.Float32frombits(0xFF7FFFFE)}, {-1, -1 + two32(-24)}, {-two32(-126), two32(-149) - two32(-126)}, {-2 * least32, -least32}, {-least32, zero32}, {zero32, 0}, {0, least32}, {least32, 2 * least32},
		{two32(-126) - two32(-149), two32(-126)}, {1 - two32(-24), 1}, {1, 1 + two32(-23)}, {2, 2 + two32(-22)}, {most32, inf32}, {inf32, inf32},
	} {
		if y := single.Next(c[0]); pat32(y) != pat32(c[1]) {
			t.Errorf("Next(%x): %x, want %x", c[0], y, c[1])
		}
	}
	for _, y := range nans32() {
		if b := pat32(single.Next(y)); b != 0x7FC00000 {
			t.Errorf("Next(%x): %x", pat32(y), b)
		}
	}
}

func TestNextOfAny(t *testing.T) {
	for _, y := range singles() {
		want := math.Nextafter32(y, inf32)
		switch {
		case pat32(y) == 1<<31:
			want = 0
		case y == -least32:
			want = zero32
		}
		if z := single.Next(y); pat32(z) != pat32(want) {
			t.Errorf("Next(%x): %x, want %x", y, z, want)
		}
	}
}

// Many Nexts, over both noughts: as many as there are singles between.
func TestNextGoesThrough(t *testing.T) {
	const far = 1 << 16
	y, n := math.Float32frombits(1<<31|far), 0
	for pat32(y) != far && n <= 3*far {
		z := single.Next(y)
		if parts.Order(single.Widen(y), single.Widen(z)) != -1 {
			t.Fatalf("Next(%x): %x", y, z)
		}
		y, n = z, n+1
	}
	if n != 2*far+1 {
		t.Errorf("%d Nexts", n)
	}
}

// ---- P4.2

// holdsNarrow holds what Narrow tells of a finite number by all modes, and by its other sign, against the words and against the decimals.
func holdsNarrow(t *testing.T, x float64) bool {
	t.Helper()
	for _, x := range []float64{x, opposite(x)} {
		a, e := dec.Of(x)
		if e != api.OK {
			t.Fatalf("%x: no decimal", x)
		}
		want := kind32().told(rat(x))
		for _, m := range modes {
			y, f, e := single.Narrow(x, m)
			if x != 0 && (answer{uint64(pat32(y)), f}) != want[m] || e != api.OK {
				t.Errorf("Narrow(%x, %d): %x %+v %d; want %x %+v", x, m, y, f, e, math.Float32frombits(uint32(want[m].bits)), want[m].flags)
				return false
			}
			z, g, _ := round.To32(a, m)
			if x != 0 && pat32(y) != pat32(z) || f != g {
				t.Errorf("Narrow(%x, %d): %x %+v; To32 %x %+v", x, m, y, f, z, g)
				return false
			}
		}
	}
	return true
}

func TestNarrow(t *testing.T) {
	tiny, far, halves := two(-150), two(128), two(128)-two(103)
	down, up := 13421772*two32(-27), 13421773*two32(-27)
	for _, c := range []struct {
		x     float64
		want  [6]float32
		flags [6]api.Flags
	}{
		{0.5, [6]float32{0.5, 0.5, 0.5, 0.5, 0.5, 0.5}, all(none)},
		{0.1, [6]float32{up, up, up, down, down, up}, all(inexact)},
		{-0.1, [6]float32{-up, -up, -down, -up, -down, -up}, all(inexact)},
		{tiny, [6]float32{0, least32, least32, 0, 0, least32}, all(under)},
		{-tiny, [6]float32{zero32, -least32, zero32, -least32, zero32, -least32}, all(under)},
		{parts.Prev(tiny), [6]float32{0, 0, least32, 0, 0, least32}, all(under)},
		{parts.Next(tiny), [6]float32{least32, least32, least32, 0, 0, least32}, all(under)},
		{two(-1074), [6]float32{0, 0, least32, 0, 0, least32}, all(under)},
		{-two(-1074), [6]float32{zero32, zero32, zero32, -least32, zero32, -least32}, all(under)},
		{2 * tiny, [6]float32{least32, least32, least32, least32, least32, least32}, all(none)},
		{3 * tiny, [6]float32{2 * least32, 2 * least32, 2 * least32, least32, least32, least32}, all(under)},
		{two(-126) - two(-151), [6]float32{two32(-126), two32(-126), two32(-126), two32(-126) - least32, two32(-126) - least32, two32(-126) - least32}, all(under)},
		{two(-126) + two(-151), [6]float32{two32(-126), two32(-126), two32(-126) + least32, two32(-126), two32(-126), two32(-126) + least32}, all(inexact)},
		{far, [6]float32{inf32, inf32, inf32, most32, most32, most32}, all(over)},
		{-far, [6]float32{-inf32, -inf32, -most32, -inf32, -most32, -most32}, all(over)},
		{math.MaxFloat64, [6]float32{inf32, inf32, inf32, most32, most32, most32}, all(over)},
		{-math.MaxFloat64, [6]float32{-inf32, -inf32, -most32, -inf32, -most32, -most32}, all(over)},
		{halves, [6]float32{inf32, inf32, inf32, most32, most32, most32}, [6]api.Flags{over, over, over, inexact, inexact, inexact}},
		{-halves, [6]float32{-inf32, -inf32, -most32, -inf32, -most32, -most32}, [6]api.Flags{over, over, inexact, over, inexact, inexact}},
		{parts.Prev(halves), [6]float32{most32, most32, inf32, most32, most32, most32}, [6]api.Flags{inexact, inexact, over, inexact, inexact, inexact}},
		{16777217, [6]float32{16777216, 16777218, 16777218, 16777216, 16777216, 16777218}, all(inexact)},
		{16777219, [6]float32{16777220, 16777220, 16777220, 16777218, 16777218, 16777218}, all(inexact)},
		{-16777219, [6]float32{-16777220, -16777220, -16777218, -16777220, -16777218, -16777218}, all(inexact)},
	} {
		for i, m := range modes {
			y, f, e := single.Narrow(c.x, m)
			if pat32(y) != pat32(c.want[i]) || f != c.flags[i] || e != api.OK {
				t.Errorf("Narrow(%x, %d): %x %+v %d; want %x %+v", c.x, m, y, f, e, c.want[i], c.flags[i])
			}
		}
	}
}

func all(f api.Flags) [6]api.Flags { return [6]api.Flags{f, f, f, f, f, f} }

func TestNarrowWithoutValue(t *testing.T) {
	for _, m := range modes {
		for _, c := range []struct {
			x float64
			y float32
		}{{0, 0}, {minus0, zero32}, {inf, inf32}, {-inf, -inf32}} {
			if y, f, e := single.Narrow(c.x, m); pat32(y) != pat32(c.y) || f != none || e != api.OK {
				t.Errorf("Narrow(%v, %d): %v %+v %d", c.x, m, y, f, e)
			}
		}
		for _, x := range nans() {
			if y, f, e := single.Narrow(x, m); pat32(y) != 0x7FC00000 || f != none || e != api.OK {
				t.Errorf("Narrow(%x, %d): %x %+v %d", pat(x), m, pat32(y), f, e)
			}
		}
	}
}

// Between singles of all edges: eighths of the way, and each of them with a bit far behind it, more and less.
func TestNarrowEdges(t *testing.T) {
	k := kind32()
	for _, b := range edges32() {
		from, width := k.worth(uint64(b)), two(104)
		low, _ := from.Float64()
		if uint64(b) < k.infinity {
			next, _ := k.worth(uint64(b) + 1).Float64()
			width = next - low
		}
		for i := range 16 {
			x := low + width*float64(i)/8
			for _, x := range []float64{x, parts.Next(x), parts.Prev(x)} {
				if x != 0 && !holdsNarrow(t, x) {
					return
				}
			}
		}
	}
}

func TestNarrowFar(t *testing.T) {
	for e := -1074; e < 1024; e++ {
		if e > -160 && e < -140 || e > -130 && e < -120 || e > 120 && e < 135 || e%61 == 0 || e < -1015 || e > 1010 {
			x := two(e)
			for _, x := range []float64{x, parts.Next(x), parts.Prev(x), 1.5 * x, 1.25 * x} {
				if x-x == 0 && x != 0 && !holdsNarrow(t, x) {
					return
				}
			}
		}
	}
	holdsNarrow(t, math.MaxFloat64)
	holdsNarrow(t, math.MaxFloat64-two(970))
	holdsNarrow(t, two(1023)*(2-two(-23)))
	holdsNarrow(t, two(1023)*(2-two(-24)))
}

// near32 is any number whose exponent is about a single's.
func near32(r *rand.Rand) float64 {
	x := math.Ldexp(1+r.Float64(), r.Intn(290)-155)
	switch r.Intn(4) {
	case 0: // halves and quarters behind a single's last bit
		x = math.Float64frombits(pat(x) &^ (1<<27 - 1))
	case 1: // a bit far behind them
		x = math.Float64frombits(pat(x)&^(1<<27-1) | 1)
	}
	return x
}

func TestNarrowAny(t *testing.T) {
	r := rand.New(rand.NewSource(42))
	for range 1500 {
		if !holdsNarrow(t, near32(r)) {
			return
		}
		x := math.Float64frombits(r.Uint64())
		if x-x == 0 && x != 0 && !holdsNarrow(t, x) {
			return
		}
	}
}

// A conversion rounds to the nearest single, Even.
func TestNarrowEvenIsConversion(t *testing.T) {
	r := rand.New(rand.NewSource(43))
	for range 200000 {
		x := near32(r)
		if r.Intn(2) == 0 {
			x = -x
		}
		if y, _, e := single.Narrow(x, api.Even); pat32(y) != pat32(float32(x)) || e != api.OK {
			t.Fatalf("Narrow(%x, Even): %x %d", x, y, e)
		}
	}
}

// ---- P4.3

// nearest32 is a value that is not 0, rounded to a single by Even.
func nearest32(v *big.Rat) float32 {
	return math.Float32frombits(uint32(kind32().told(v)[api.Even].bits))
}

// sumOf is what the words say of a sum.
func sumOf(a, b float32) float32 {
	switch {
	case a != a || b != b:
		return nan32
	case !finite32(a) && !finite32(b) && a != b:
		return nan32
	case !finite32(a):
		return a
	case !finite32(b):
		return b
	}
	v := new(big.Rat).Add(value32(a), value32(b))
	if v.Sign() != 0 {
		return nearest32(v)
	}
	if pat32(a) == 1<<31 && pat32(b) == 1<<31 {
		return zero32
	}
	return 0
}

// productOf is what the words say of a product.
func productOf(a, b float32) float32 {
	if a != a || b != b || a == 0 && !finite32(b) || b == 0 && !finite32(a) {
		return nan32
	}
	y := float32(0)
	switch {
	case !finite32(a) || !finite32(b):
		y = inf32
	case a != 0 && b != 0:
		v := new(big.Rat).Mul(value32(a), value32(b))
		y = nearest32(v.Abs(v))
	}
	if pat32(a)>>31 != pat32(b)>>31 {
		return opposite32(y)
	}
	return y
}

// holdsBoth holds sum and product of two singles against the words, whichever stands first.
func holdsBoth(t *testing.T, a, b float32) bool {
	t.Helper()
	sum, product := pat32(sumOf(a, b)), pat32(productOf(a, b))
	if x, y := pat32(single.Add(a, b)), pat32(single.Add(b, a)); x != sum || y != sum {
		t.Errorf("Add(%x, %x): %x, %x; want %x", pat32(a), pat32(b), x, y, sum)
		return false
	}
	if x, y := pat32(single.Mul(a, b)), pat32(single.Mul(b, a)); x != product || y != product {
		t.Errorf("Mul(%x, %x): %x, %x; want %x", pat32(a), pat32(b), x, y, product)
		return false
	}
	return true
}

func TestAdd(t *testing.T) {
	for _, c := range [][3]float32{
		{1, 2, 3}, {0.1, 0.2, 0.3}, {0, zero32, 0}, {zero32, zero32, zero32}, {0, 0, 0}, {1, -1, 0}, {least32, -least32, 0}, {most32, -most32, 0}, {zero32, 1, 1}, {inf32, -inf32, nan32}, {inf32, inf32, inf32}, {-inf32, -inf32, -inf32}, {inf32, -most32, inf32}, {-inf32, most32, -inf32},
		{1 << 24, 1, 1 << 24}, {1 << 24, 3, 1<<24 + 4}, {-1 << 24, -1, -1 << 24}, {1 << 24, 1 + two32(-23), 1<<24 + 2}, {most32, most32, inf32}, {-most32, -most32, -inf32}, {most32, two32(102), most32}, {most32, two32(103), inf32}, {most32, two32(103) - two32(79), most32}, {least32, least32, 2 * least32}, {nan32, 1, nan32}, {nan32, inf32, nan32},
	} {
		for _, l := range [][2]float32{{c[0], c[1]}, {c[1], c[0]}} {
			if y := single.Add(l[0], l[1]); pat32(y) != pat32(c[2]) {
				t.Errorf("Add(%v, %v): %v", l[0], l[1], y)
			}
		}
	}
}

func TestMul(t *testing.T) {
	for _, c := range [][3]float32{
		{2, 3, 6}, {0.1, 0.1, 0.010000001}, {zero32, 2, zero32}, {0, -2, zero32}, {zero32, -2, 0}, {zero32, zero32, 0}, {0, zero32, zero32}, {0, inf32, nan32}, {zero32, -inf32, nan32}, {-inf32, 2, -inf32}, {-inf32, -2, inf32}, {inf32, -inf32, -inf32}, {inf32, least32, inf32}, {nan32, 0, nan32}, {nan32, inf32, nan32},
		{two32(-100), -two32(-100), zero32}, {two32(-100), two32(-100), 0}, {two32(-75), two32(-75), 0}, {two32(-75), two32(-75) * 1.5, least32}, {two32(-74), two32(-75), least32}, {two32(-75), -1.5 * two32(-74), -2 * least32}, {most32, 2, inf32}, {most32, -most32, -inf32}, {least32, 0.5, 0}, {least32, 1.5, 2 * least32}, {4097, 4097, 16785408},
	} {
		for _, l := range [][2]float32{{c[0], c[1]}, {c[1], c[0]}} {
			if y := single.Mul(l[0], l[1]); pat32(y) != pat32(c[2]) {
				t.Errorf("Mul(%x, %x): %x", l[0], l[1], y)
			}
		}
	}
}

func TestAddMulEdges(t *testing.T) {
	var l []float32
	for _, b := range edges32() {
		l = append(l, math.Float32frombits(b), math.Float32frombits(b|1<<31))
	}
	l = append(l, nans32()...)
	for i, a := range l {
		for _, b := range l[i:] {
			if !holdsBoth(t, a, b) {
				return
			}
		}
	}
}

func TestAddMulAny(t *testing.T) {
	r := rand.New(rand.NewSource(44))
	for range 4000 {
		a, b := math.Float32frombits(r.Uint32()), math.Float32frombits(r.Uint32())
		if r.Intn(2) == 0 { // about as great, so that bits of both count
			b = float32(math.Ldexp(float64(b), r.Intn(50)-25-math.Ilogb(float64(b))+math.Ilogb(float64(a))))
		}
		if !holdsBoth(t, a, b) {
			return
		}
	}
}

func TestSum(t *testing.T) {
	wild := math.Float32frombits(0xFF800001)
	for _, c := range []struct {
		l    []float32
		want float32
	}{
		{nil, 0}, {[]float32{}, 0}, {[]float32{zero32}, zero32}, {[]float32{zero32, zero32}, zero32}, {[]float32{zero32, 0}, 0}, {[]float32{0, zero32}, 0}, {[]float32{-3}, -3}, {[]float32{wild}, nan32}, {[]float32{-inf32}, -inf32},
		{[]float32{1 << 24, 1, 1}, 1 << 24}, {[]float32{1, 1, 1 << 24}, 1<<24 + 2}, {[]float32{1, 1 << 24, 1}, 1 << 24}, {[]float32{1, 1 << 24, -1 << 24}, 0}, {[]float32{1 << 24, -1 << 24, 1}, 1},
		{[]float32{most32, most32, -most32}, inf32}, {[]float32{most32, -most32, most32}, most32}, {[]float32{inf32, 1, -inf32, 5}, nan32}, {[]float32{1, wild, 2}, nan32}, {[]float32{1, -1, zero32}, 0},
	} {
		if y := single.Sum(c.l); pat32(y) != pat32(c.want) {
			t.Errorf("Sum(%v): %v", c.l, y)
		}
	}
}

func TestSumOfAny(t *testing.T) {
	r := rand.New(rand.NewSource(45))
	other := 0
	for range 100 {
		l := make([]float32, 1+r.Intn(12), 20)
		for i := range l {
			l[i] = float32(math.Ldexp(r.Float64()-0.5, r.Intn(30)))
		}
		kept := slices.Clone(l)
		want := l[0]
		for _, y := range l[1:] {
			want = sumOf(want, y)
		}
		if y := single.Sum(l); pat32(y) != pat32(want) {
			t.Fatalf("Sum(%x): %x, want %x", l, y, want)
		}
		if !slices.Equal(l, kept) {
			t.Fatalf("%x became %x", kept, l)
		}
		slices.Reverse(kept)
		if single.Sum(kept) != single.Sum(l) {
			other++
		}
	}
	if other == 0 {
		t.Error("the order never counted")
	}
}

// ---- P4.4

// wholeOf rounds a value to a whole number by the words.
func wholeOf(v *big.Rat, mode int) *big.Int {
	neg, v := v.Sign() < 0, new(big.Rat).Abs(v)
	low, rest := new(big.Int).QuoRem(v.Num(), v.Denom(), new(big.Int))
	if rest.Sign() != 0 && onward(mode, neg, low.Bit(0) == 1, rest.Lsh(rest, 1).Cmp(v.Denom())) {
		low.Add(low, big.NewInt(1))
	}
	if neg {
		return low.Neg(low)
	}
	return low
}

// holdsWhole holds Whole, ToInt and ToUint of a finite number and of its opposite against the words.
func holdsWhole(t *testing.T, x float64) bool {
	t.Helper()
	for _, x := range []float64{x, opposite(x)} {
		for _, m := range modes {
			n := wholeOf(rat(x), m)
			y, e := single.Whole(x, m)
			if e != api.OK || y-y != 0 || rat(y).Cmp(new(big.Rat).SetInt(n)) != 0 || y == 0 && math.Signbit(y) != math.Signbit(x) {
				t.Errorf("Whole(%v, %d): %v %d, want %d", x, m, y, e, n)
				return false
			}
			i, e := single.ToInt(x, m)
			if n.IsInt64() && (e != api.OK || i != n.Int64()) || !n.IsInt64() && (e != api.ErrRange || i != 0) {
				t.Errorf("ToInt(%v, %d): %d %d, want %d", x, m, i, e, n)
				return false
			}
			u, e := single.ToUint(x, m)
			if n.IsUint64() && (e != api.OK || u != n.Uint64()) || !n.IsUint64() && (e != api.ErrRange || u != 0) {
				t.Errorf("ToUint(%v, %d): %d %d, want %d", x, m, u, e, n)
				return false
			}
		}
	}
	return true
}

func TestWhole(t *testing.T) {
	for _, c := range []struct {
		x    float64
		want [6]float64
	}{
		{2.5, [6]float64{2, 3, 3, 2, 2, 3}}, {-2.5, [6]float64{-2, -3, -2, -3, -2, -3}}, {3.5, [6]float64{4, 4, 4, 3, 3, 3}}, {-3.5, [6]float64{-4, -4, -3, -4, -3, -3}}, {2.25, [6]float64{2, 2, 3, 2, 2, 3}}, {2.75, [6]float64{3, 3, 3, 2, 2, 3}},
		{0.5, [6]float64{0, 1, 1, 0, 0, 1}}, {-0.5, [6]float64{minus0, -1, minus0, -1, minus0, -1}}, {parts.Prev(0.5), [6]float64{0, 0, 1, 0, 0, 1}}, {parts.Next(0.5), [6]float64{1, 1, 1, 0, 0, 1}}, {-two(-1074), [6]float64{minus0, minus0, minus0, -1, minus0, -1}},
		{two(52) - 0.5, [6]float64{two(52), two(52), two(52), two(52) - 1, two(52) - 1, two(52) - 1}}, {two(51) + 0.5, [6]float64{two(51), two(51) + 1, two(51) + 1, two(51), two(51), two(51) + 1}},
	} {
		for i, m := range modes {
			if y, e := single.Whole(c.x, m); pat(y) != pat(c.want[i]) || e != api.OK {
				t.Errorf("Whole(%v, %d): %v %d, want %v", c.x, m, y, e, c.want[i])
			}
		}
	}
	for _, x := range []float64{0, minus0, 1, -1, 2, 3, -7, two(52) + 1, two(53) - 1, two(53), two(53) + 2, two(60), -two(63), two(64), math.MaxFloat64, -math.MaxFloat64, inf, -inf} {
		for _, m := range modes {
			if y, e := single.Whole(x, m); pat(y) != pat(x) || e != api.OK {
				t.Errorf("Whole(%v, %d): %v %d", x, m, y, e)
			}
		}
	}
}

func TestToInt(t *testing.T) {
	for _, c := range []struct {
		x    float64
		mode int
		n    int64
		e    api.Errno
	}{
		{-0.5, api.Even, 0, api.OK}, {minus0, api.Down, 0, api.OK}, {-0.5, api.Down, -1, api.OK}, {-1.5, api.Zero, -1, api.OK}, {two(63), api.Even, 0, api.ErrRange}, {two(63), api.Zero, 0, api.ErrRange}, {parts.Prev(two(63)), api.Up, math.MaxInt64 - 1023, api.OK}, {-two(63), api.Even, math.MinInt64, api.OK}, {-two(63), api.Odd, math.MinInt64, api.OK}, {parts.Prev(-two(63)), api.Up, 0, api.ErrRange}, {parts.Next(-two(63)), api.Down, math.MinInt64 + 1024, api.OK},
		{inf, api.Up, 0, api.ErrRange}, {-inf, api.Zero, 0, api.ErrRange}, {math.MaxFloat64, api.Down, 0, api.ErrRange}, {two(53) - 1, api.Odd, 1<<53 - 1, api.OK}, {two(53) + 2, api.Odd, 1<<53 + 2, api.OK},
	} {
		if n, e := single.ToInt(c.x, c.mode); n != c.n || e != c.e {
			t.Errorf("ToInt(%v, %d): %d %d", c.x, c.mode, n, e)
		}
	}
}

func TestToUint(t *testing.T) {
	for _, c := range []struct {
		x    float64
		mode int
		n    uint64
		e    api.Errno
	}{
		{-0.5, api.Zero, 0, api.OK}, {-0.5, api.Even, 0, api.OK}, {-0.5, api.Up, 0, api.OK}, {-0.5, api.Down, 0, api.ErrRange}, {-0.5, api.Away, 0, api.ErrRange}, {-0.5, api.Odd, 0, api.ErrRange}, {parts.Next(-1), api.Zero, 0, api.OK}, {-1, api.Zero, 0, api.ErrRange}, {minus0, api.Down, 0, api.OK}, {two(63), api.Odd, 1 << 63, api.OK}, {parts.Prev(two(63)), api.Up, 1<<63 - 1024, api.OK}, {parts.Next(two(63)), api.Up, 1<<63 + 2048, api.OK},
		{two(64), api.Even, 0, api.ErrRange}, {two(64) - two(11), api.Even, 18446744073709549568, api.OK}, {inf, api.Down, 0, api.ErrRange}, {-inf, api.Up, 0, api.ErrRange}, {-two(-1074), api.Even, 0, api.OK}, {-two(-1074), api.Down, 0, api.ErrRange},
	} {
		if n, e := single.ToUint(c.x, c.mode); n != c.n || e != c.e {
			t.Errorf("ToUint(%v, %d): %d %d", c.x, c.mode, n, e)
		}
	}
}

func TestWholeEdges(t *testing.T) {
	for _, e := range []int{-1074, -1073, -1022, -149, -65, -64, -63, -62, -54, -53, -2, -1, 0, 1, 2, 3, 10, 31, 32, 50, 51, 52, 53, 54, 62, 63, 64, 65, 100, 1023} {
		for _, add := range []float64{0, 0.25, 0.5, 0.75, 1, 1.5, 2, 2.5, -0.25, -0.5, -0.75, -1, -1.5, -2} {
			x := two(e) + add
			for _, x := range []float64{x, parts.Next(x), parts.Prev(x)} {
				if !holdsWhole(t, x) {
					return
				}
			}
		}
	}
	holdsWhole(t, math.MaxFloat64)
}

func TestWholeAny(t *testing.T) {
	r := rand.New(rand.NewSource(46))
	for range 5000 {
		x := math.Ldexp(1+r.Float64(), r.Intn(80)-10)
		if r.Intn(3) == 0 {
			x = math.Trunc(x) + 0.5
		}
		if !holdsWhole(t, x) {
			return
		}
		if x = math.Float64frombits(r.Uint64()); x-x == 0 && !holdsWhole(t, x) {
			return
		}
	}
}

func TestWholeOfNaN(t *testing.T) {
	for _, x := range nans() {
		for _, m := range modes {
			if y, e := single.Whole(x, m); pat(y) != 0 || e != api.ErrNaN {
				t.Errorf("Whole(%x, %d): %v %d", pat(x), m, y, e)
			}
			if n, e := single.ToInt(x, m); n != 0 || e != api.ErrNaN {
				t.Errorf("ToInt(%x, %d): %v %d", pat(x), m, n, e)
			}
			if n, e := single.ToUint(x, m); n != 0 || e != api.ErrNaN {
				t.Errorf("ToUint(%x, %d): %v %d", pat(x), m, n, e)
			}
		}
	}
}

// ---- P4.5

// holdsFrom holds FromUint, and FromInt and SingleInt of whatever whole number has these bits, against the words.
func holdsFrom(t *testing.T, u uint64) bool {
	t.Helper()
	n := int64(u)
	want := kind64().told(new(big.Rat).SetInt(new(big.Int).SetUint64(u)))
	signed := kind64().told(new(big.Rat).SetInt64(n))
	narrow := kind32().told(new(big.Rat).SetInt64(n))
	for _, m := range modes {
		if x, f, e := single.FromUint(u, m); (answer{pat(x), f}) != want[m] || e != api.OK {
			t.Errorf("FromUint(%d, %d): %x %+v %d", u, m, x, f, e)
			return false
		}
		if x, f, e := single.FromInt(n, m); (answer{pat(x), f}) != signed[m] || e != api.OK {
			t.Errorf("FromInt(%d, %d): %x %+v %d", n, m, x, f, e)
			return false
		}
		if y, f, e := single.SingleInt(n, m); (answer{uint64(pat32(y)), f}) != narrow[m] || e != api.OK {
			t.Errorf("SingleInt(%d, %d): %x %+v %d", n, m, y, f, e)
			return false
		}
	}
	return true
}

func TestFromInt(t *testing.T) {
	const n = 1<<53 + 1
	for _, c := range []struct {
		n    int64
		want [6]float64
		f    api.Flags
	}{
		{0, [6]float64{}, none}, {7, [6]float64{7, 7, 7, 7, 7, 7}, none}, {n, [6]float64{n - 1, n + 1, n + 1, n - 1, n - 1, n + 1}, inexact}, {-n, [6]float64{1 - n, -1 - n, 1 - n, -1 - n, 1 - n, -1 - n}, inexact}, {n + 2, [6]float64{n + 3, n + 3, n + 3, n + 1, n + 1, n + 1}, inexact},
		{math.MinInt64, [6]float64{-two(63), -two(63), -two(63), -two(63), -two(63), -two(63)}, none}, {math.MaxInt64, [6]float64{two(63), two(63), two(63), two(63) - 1024, two(63) - 1024, two(63) - 1024}, inexact}, {math.MinInt64 + 1, [6]float64{-two(63), -two(63), 1024 - two(63), -two(63), 1024 - two(63), 1024 - two(63)}, inexact},
	} {
		for i, m := range modes {
			if x, f, e := single.FromInt(c.n, m); pat(x) != pat(c.want[i]) || f != c.f || e != api.OK {
				t.Errorf("FromInt(%d, %d): %v %+v %d", c.n, m, x, f, e)
			}
		}
	}
}

func TestFromUint(t *testing.T) {
	for _, c := range []struct {
		n    uint64
		want [6]float64
		f    api.Flags
	}{
		{0, [6]float64{}, none}, {1, [6]float64{1, 1, 1, 1, 1, 1}, none}, {1 << 63, [6]float64{two(63), two(63), two(63), two(63), two(63), two(63)}, none}, {math.MaxUint64, [6]float64{two(64), two(64), two(64), two(64) - 2048, two(64) - 2048, two(64) - 2048}, inexact}, {1<<63 + 1024, [6]float64{two(63), two(63) + 2048, two(63) + 2048, two(63), two(63), two(63) + 2048}, inexact}, {1<<63 + 3072, [6]float64{two(63) + 4096, two(63) + 4096, two(63) + 4096, two(63) + 2048, two(63) + 2048, two(63) + 2048}, inexact},
	} {
		for i, m := range modes {
			if x, f, e := single.FromUint(c.n, m); pat(x) != pat(c.want[i]) || f != c.f || e != api.OK {
				t.Errorf("FromUint(%d, %d): %v %+v %d", c.n, m, x, f, e)
			}
		}
	}
}

func TestSingleInt(t *testing.T) {
	const n, far = 1<<60 + 1<<36 + 1, 1<<63 - 1<<39
	low, high := two32(60), two32(60)+two32(37)
	for _, c := range []struct {
		n    int64
		want [6]float32
		f    api.Flags
	}{
		{0, [6]float32{}, none}, {-7, [6]float32{-7, -7, -7, -7, -7, -7}, none}, {1<<24 + 1, [6]float32{1 << 24, 1<<24 + 2, 1<<24 + 2, 1 << 24, 1 << 24, 1<<24 + 2}, inexact}, {n, [6]float32{high, high, high, low, low, high}, inexact}, {-n, [6]float32{-high, -high, -low, -high, -low, -high}, inexact}, {n - 1, [6]float32{low, high, high, low, low, high}, inexact}, {n - 2, [6]float32{low, low, high, low, low, high}, inexact},
		{math.MaxInt64, [6]float32{two32(63), two32(63), two32(63), far, far, far}, inexact}, {math.MinInt64, [6]float32{-two32(63), -two32(63), -two32(63), -two32(63), -two32(63), -two32(63)}, none}, {math.MinInt64 + 1, [6]float32{-two32(63), -two32(63), -far, -two32(63), -far, -far}, inexact},
	} {
		for i, m := range modes {
			if y, f, e := single.SingleInt(c.n, m); pat32(y) != pat32(c.want[i]) || f != c.f || e != api.OK {
				t.Errorf("SingleInt(%d, %d): %v %+v %d", c.n, m, y, f, e)
			}
		}
	}
}

// wholes are whole numbers about the edges: powers of two, middles between those beside one another, a bit more, a bit less; and others.
func wholes() []uint64 {
	l := []uint64{0}
	for i := range 64 {
		n := uint64(1) << i
		l = append(l, n, n+1, n-1, -n, n+n>>24, n+n>>23+n>>24, n+n>>24+1, n+n>>24-1, n+n>>53, n+n>>52+n>>53, n+n>>53+1, n+n>>53-1, n-n>>24, n-n>>53, n-n>>25, n-n>>54)
	}
	r := rand.New(rand.NewSource(47))
	for range 500 {
		l = append(l, r.Uint64()>>r.Intn(64))
	}
	return l
}

func TestFromWholes(t *testing.T) {
	for _, n := range wholes() {
		if !holdsFrom(t, n) || !holdsFrom(t, -n) {
			return
		}
	}
}

// ---- P4.6

func TestFollowsNarrowOfWiden(t *testing.T) {
	for _, y := range singles() {
		for _, m := range modes {
			if z, f, e := single.Narrow(single.Widen(y), m); pat32(z) != pat32(y) || f != none || e != api.OK {
				t.Errorf("%x by %d: %x %+v %d", y, m, z, f, e)
			}
		}
	}
}

func narrow(t *testing.T, x float64, mode int) float32 {
	t.Helper()
	y, _, e := single.Narrow(x, mode)
	if e != api.OK {
		t.Fatalf("Narrow(%x, %d): %d", x, mode, e)
	}
	return y
}

func TestFollowsNarrowModes(t *testing.T) {
	r := rand.New(rand.NewSource(48))
	for range 3000 {
		x := near32(r)
		up, down := narrow(t, x, api.Up), narrow(t, x, api.Down)
		if pat32(narrow(t, -x, api.Down)) != pat32(-up) || pat32(narrow(t, -x, api.Up)) != pat32(-down) {
			t.Fatalf("%x: Up and Down of its opposite", x)
		}
		if pat32(narrow(t, x, api.Zero)) != pat32(down) || pat32(narrow(t, -x, api.Zero)) != pat32(-down) {
			t.Fatalf("%x: Zero", x)
		}
		for _, m := range []int{api.Even, api.Away, api.Odd} {
			if y := pat32(narrow(t, x, m)); y != pat32(up) && y != pat32(down) {
				t.Fatalf("%x: mode %d", x, m)
			}
		}
		if single.Widen(up) < x || single.Widen(down) > x || up != down && pat32(single.Next(down)) != pat32(up) {
			t.Fatalf("%x: %x to %x", x, down, up)
		}
	}
}

func TestFollowsNarrowOrder(t *testing.T) {
	r := rand.New(rand.NewSource(49))
	for range 3000 {
		x := near32(r)
		l := []float64{x, parts.Next(x), parts.Next(parts.Next(x)), x * (1 + two(-25)), x * (1 + two(-23)), near32(r), -x, inf, -inf, 0}
		slices.Sort(l)
		for _, m := range modes {
			for i := range l[1:] {
				if narrow(t, l[i], m) > narrow(t, l[i+1], m) {
					t.Fatalf("mode %d: %x, %x", m, l[i], l[i+1])
				}
			}
		}
	}
}

func TestFollowsOddOfWholes(t *testing.T) {
	twice := 0
	for _, u := range wholes() {
		n := int64(u)
		odd, _, _ := single.FromInt(n, api.Odd)
		even, _, _ := single.FromInt(n, api.Even)
		for _, m := range modes {
			y, f, _ := single.Narrow(odd, m)
			z, g, e := single.SingleInt(n, m)
			if pat32(y) != pat32(z) || f.Over != g.Over || f.Under != g.Under || e != api.OK {
				t.Fatalf("%d by %d: %x %+v, at once %x %+v", n, m, y, f, z, g)
			}
		}
		if at, _, _ := single.SingleInt(n, api.Even); narrow(t, even, api.Even) != at {
			twice++
		}
	}
	if twice == 0 {
		t.Error("Even twice was always Even once")
	}
}

func TestFollowsOddOfDecimals(t *testing.T) {
	r := rand.New(rand.NewSource(50))
	var l []api.Dec
	for _, s := range []string{"0", "1e400", "-1e400", "1e-400", "-1e-400", "1e-46", "7e-46", "3.4028235677973366e38", "3.4028235677973367e38", "16777217", "16777217.00000000000000000001", "16777216.99999999999999999999", "-16777219", "0.1"} {
		a, e := dec.Parse(s)
		if e != api.OK {
			t.Fatal(s, e)
		}
		l = append(l, a)
	}
	for range 400 {
		x := near32(r)
		a, _ := dec.Of(x)
		far, _ := dec.Parse("1e-700")
		more, e := dec.Add(a, far)
		if e != api.OK {
			t.Fatal(e)
		}
		less, _ := dec.Sub(a, far)
		l = append(l, a, more, less)
	}
	for _, a := range l {
		x, _, _ := round.To64(a, api.Odd)
		for _, m := range modes {
			y, f, _ := single.Narrow(x, m)
			z, g, e := round.To32(a, m)
			if pat32(y) != pat32(z) || f.Over != g.Over || f.Under != g.Under || e != api.OK {
				t.Fatalf("%x by %d: %x %+v, at once %x %+v", x, m, y, f, z, g)
			}
		}
	}
}

func TestFollowsThereAndBack(t *testing.T) {
	for _, u := range wholes() {
		n := int64(u)
		if n > 1<<53 || n < -1<<53 {
			continue
		}
		for _, n := range []int64{n, -n} {
			for _, m := range modes {
				x, f, _ := single.FromInt(n, m)
				for _, back := range modes {
					if k, e := single.ToInt(x, back); k != n || f != none || e != api.OK {
						t.Fatalf("%d by %d and %d: %d %+v %d", n, m, back, k, f, e)
					}
				}
			}
		}
	}
}

func TestFollowsWholeOfWhole(t *testing.T) {
	r := rand.New(rand.NewSource(51))
	for range 2000 {
		x := math.Ldexp(r.Float64()-0.5, r.Intn(80)-10)
		for _, m := range modes {
			y, _ := single.Whole(x, m)
			for _, again := range modes {
				if z, e := single.Whole(y, again); pat(z) != pat(y) || e != api.OK {
					t.Fatalf("%v by %d and %d: %v, %v %d", x, m, again, y, z, e)
				}
			}
		}
	}
}

// ---- wrong inputs

func TestWrongModes(t *testing.T) {
	numbers := append(nans(), 0, minus0, 1, -1, 0.1, 2.5, two(-1074), two(63), two(64), two(128), math.MaxFloat64, inf, -inf)
	whole := []int64{0, 1, -1, 1<<53 + 1, math.MaxInt64, math.MinInt64}
	for _, m := range wrong {
		for _, x := range numbers {
			if y, f, e := single.Narrow(x, m); pat32(y) != 0 || f != none || e != api.ErrArg {
				t.Errorf("Narrow(%v, %d): %v %+v %d", x, m, y, f, e)
			}
			if y, e := single.Whole(x, m); pat(y) != 0 || e != api.ErrArg {
				t.Errorf("Whole(%v, %d): %v %d", x, m, y, e)
			}
			if n, e := single.ToInt(x, m); n != 0 || e != api.ErrArg {
				t.Errorf("ToInt(%v, %d): %v %d", x, m, n, e)
			}
			if n, e := single.ToUint(x, m); n != 0 || e != api.ErrArg {
				t.Errorf("ToUint(%v, %d): %v %d", x, m, n, e)
			}
		}
		for _, n := range whole {
			if x, f, e := single.FromInt(n, m); pat(x) != 0 || f != none || e != api.ErrArg {
				t.Errorf("FromInt(%d, %d): %v %+v %d", n, m, x, f, e)
			}
			if x, f, e := single.FromUint(uint64(n), m); pat(x) != 0 || f != none || e != api.ErrArg {
				t.Errorf("FromUint(%d, %d): %v %+v %d", uint64(n), m, x, f, e)
			}
			if y, f, e := single.SingleInt(n, m); pat32(y) != 0 || f != none || e != api.ErrArg {
				t.Errorf("SingleInt(%d, %d): %v %+v %d", n, m, y, f, e)
			}
		}
	}
}
