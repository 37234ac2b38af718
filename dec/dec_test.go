package dec_test

import (
	"math"
	"math/big"
	"math/rand"
	"regexp"
	"strings"
	"testing"

	"quadrille/api"
	"quadrille/dec"
)

var nought = api.Dec{}

func d(digits string, exp int) api.Dec { return api.Dec{Digits: digits, Exp: exp} }
func n(digits string, exp int) api.Dec { return api.Dec{Neg: true, Digits: digits, Exp: exp} }

// short tells a decimal without flooding the test's log.
func short(a api.Dec) api.Dec {
	if len(a.Digits) > 60 {
		a.Digits = a.Digits[:20] + ".." + a.Digits[len(a.Digits)-20:]
	}
	return a
}

func same(t *testing.T, what string, a api.Dec, e api.Errno, want api.Dec, no api.Errno) bool {
	t.Helper()
	if a != want || e != no {
		t.Errorf("%s: %+v (%d digits), %d; want %+v (%d digits), %d", what, short(a), len(a.Digits), e, short(want), len(want.Digits), no)
		return false
	}
	return true
}

// mayBe are decimals that may be: the edges, both signs.
func mayBe() []api.Dec {
	ones, nines := strings.Repeat("1", 8192), strings.Repeat("9", 8192)
	l := []api.Dec{nought}
	for _, digits := range []string{"1", "2", "5", "9", "11", "99", "101", "1000000000000000000001", ones, nines, "1" + strings.Repeat("0", 8190) + "1"} {
		for _, exp := range []int{-20000, -19999, -8192, -1, 0, 1, 8191, 19999, 20000} {
			l = append(l, d(digits, exp), n(digits, exp))
		}
	}
	return l
}

// mayNotBe are decimals that may not.
func mayNotBe() []api.Dec {
	l := []api.Dec{{Neg: true}, {Exp: 1}, {Exp: -1}, {Neg: true, Exp: 3}, {Exp: 20001}}
	for _, digits := range []string{"0", "00", "01", "10", "010", "1 2", " 1", "1 ", "x", "1x1", "-1", "+1", "1.5", "1e5", "1/1", "1:1", "1\x001", "\xff", "1٣1", "٣", strings.Repeat("1", 8193), "1" + strings.Repeat("0", 8192) + "1", strings.Repeat("1", 8192) + "0", strings.Repeat("1", 20000)} {
		l = append(l, d(digits, 0), n(digits, -7))
	}
	for _, exp := range []int{20001, -20001, math.MaxInt, math.MinInt, 1 << 32, -1 << 32} {
		l = append(l, d("1", exp), n("15", exp))
	}
	return l
}

// scaled is a decimal counted in 10^exp.
func scaled(a api.Dec, exp int) *big.Int {
	v := new(big.Int)
	if a.Digits != "" {
		v.SetString(a.Digits, 10)
	}
	if a.Neg {
		v.Neg(v)
	}
	return v.Mul(v, new(big.Int).Exp(big.NewInt(10), big.NewInt(int64(a.Exp-exp)), nil))
}

// wanted is the decimal of v times 10^exp, or the error that it asks for.
func wanted(v *big.Int, exp int) (api.Dec, api.Errno) {
	digits := new(big.Int).Abs(v).String()
	for len(digits) > 0 && digits[len(digits)-1] == '0' {
		digits = digits[:len(digits)-1]
		exp++
	}
	switch {
	case digits == "":
		return nought, api.OK
	case len(digits) > 8192:
		return nought, api.ErrRoom
	case exp < -20000 || exp > 20000:
		return nought, api.ErrRange
	}
	return api.Dec{Neg: v.Sign() < 0, Digits: digits, Exp: exp}, api.OK
}

// anyOf makes decimals that may be, of at most so many digits and exponents within far of 0.
func anyOf(r *rand.Rand, most, far int) api.Dec {
	digits := make([]byte, 1+r.Intn(most))
	for i := range digits {
		digits[i] = "0000123456789999"[r.Intn(16)]
	}
	digits[0] = byte('1' + r.Intn(9))
	digits[len(digits)-1] = byte('1' + r.Intn(9))
	return api.Dec{Neg: r.Intn(2) == 0, Digits: string(digits), Exp: r.Intn(2*far+1) - far}
}

// P2.1

func TestValid(t *testing.T) {
	for _, a := range mayBe() {
		if !dec.Valid(a) {
			t.Errorf("Valid(%+v): false", short(a))
		}
	}
	for _, a := range mayNotBe() {
		if dec.Valid(a) {
			t.Errorf("Valid(%+v): true", short(a))
		}
	}
	for c := range 256 {
		a := d("1"+string([]byte{byte(c)})+"1", 0)
		if dec.Valid(a) != (c >= '0' && c <= '9') {
			t.Errorf("Valid of 1, byte %d, 1: %v", c, dec.Valid(a))
		}
	}
}

func TestWrongDecimals(t *testing.T) {
	calls := []struct {
		name string
		call func(a, b api.Dec) (api.Dec, api.Errno)
	}{{"Add", dec.Add}, {"Sub", dec.Sub}, {"Mul", dec.Mul}}
	// Beside the last two, sums have no room and products are out of range: ErrArg comes ahead.
	others := []api.Dec{nought, d("1", 0), d("1", 20000), n("1", -20000)}
	for _, bad := range mayNotBe() {
		a, e := dec.Neg(bad)
		same(t, "Neg", a, e, nought, api.ErrArg)
		if s, e := dec.Text(bad); s != "" || e != api.ErrArg {
			t.Errorf("Text(%+v): %q, %d", short(bad), s, e)
		}
		for _, b := range append(others, bad) {
			for _, c := range calls {
				a, e := c.call(bad, b)
				same(t, c.name+" of a wrong one and another", a, e, nought, api.ErrArg)
				a, e = c.call(b, bad)
				same(t, c.name+" of one and a wrong one", a, e, nought, api.ErrArg)
			}
			if k, e := dec.Cmp(bad, b); k != 0 || e != api.ErrArg {
				t.Errorf("Cmp(%+v, %+v): %d, %d", short(bad), short(b), k, e)
			}
			if k, e := dec.Cmp(b, bad); k != 0 || e != api.ErrArg {
				t.Errorf("Cmp(%+v, %+v): %d, %d", short(b), short(bad), k, e)
			}
		}
	}
}

// P2.2

// numbers are finite ones: edges, whole ones, singles, any bits; both signs of each.
func numbers() []float64 {
	var l []float64
	for _, b := range []uint64{0, 1, 2, 3, 1<<52 - 1, 1 << 52, 1<<52 + 1, 1<<53 - 1, 1 << 53, 0x7FF<<52 - 2, 0x7FF<<52 - 1} {
		l = append(l, math.Float64frombits(b))
	}
	l = append(l, 0.1, 0.2, 0.3, 0.5, 1, 2, 3, 10, 100, 1.5, 123456789, 1e15, 1e16, 1e22, 1e23, 1e300, 1e-300, 1<<53-1, 1<<53, 1<<62, 1<<63, 1<<64)
	for e := -1074; e < 1024; e += 13 {
		l = append(l, math.Ldexp(1, e), math.Ldexp(0x1.fffffffffffffp0, e))
	}
	r := rand.New(rand.NewSource(2))
	for range 300 {
		b := r.Uint64()
		l = append(l, math.Float64frombits(b%(0x7FF<<52)), math.Float64frombits(b>>12), float64(int64(b)), float64(b>>40)/8)
	}
	for _, x := range l {
		l = append(l, -x)
	}
	return l
}

func TestOf(t *testing.T) {
	for _, c := range []struct {
		x    float64
		want api.Dec
	}{
		{0, nought}, {math.Copysign(0, -1), nought}, {0.5, d("5", -1)}, {-0.25, n("25", -2)}, {1, d("1", 0)}, {-10, n("1", 1)}, {1e22, d("1", 22)}, {1 << 53, d("9007199254740992", 0)}, {1200, d("12", 2)},
		{0.1, d("1000000000000000055511151231257827021181583404541015625", -55)},
		{0x1p64, d("18446744073709551616", 0)},
	} {
		a, e := dec.Of(c.x)
		same(t, "Of", a, e, c.want, api.OK)
	}
	for _, x := range numbers() {
		a, e := dec.Of(x)
		// The value of x counted in 10^-1100 is whole.
		v := new(big.Rat).SetFloat64(x)
		v.Mul(v, new(big.Rat).SetInt(new(big.Int).Exp(big.NewInt(10), big.NewInt(1100), nil)))
		want, _ := wanted(v.Num(), -1100)
		if !v.IsInt() || !dec.Valid(a) || !same(t, "Of", a, e, want, api.OK) {
			t.Fatalf("Of(%v)", x)
		}
	}
	for _, b := range []uint64{0x7FF << 52, 0xFFF << 52, 0x7FF8 << 48, 0x7FF<<52 + 1, 0xFFF<<52 + 1, 1<<63 - 1, 1<<64 - 1} {
		a, e := dec.Of(math.Float64frombits(b))
		same(t, "Of no finite number", a, e, nought, api.ErrNaN)
	}
}

func TestInt(t *testing.T) {
	l := []int64{0, 1, -1, 9, 10, -10, 100, 1200, 1001, math.MaxInt64, math.MinInt64, math.MaxInt64 - 1, math.MinInt64 + 1, 1e18, -1e18}
	r := rand.New(rand.NewSource(3))
	for range 1000 {
		v := int64(r.Uint64()) >> r.Intn(64)
		l = append(l, v, v/1000*1000)
	}
	for _, v := range l {
		want, _ := wanted(big.NewInt(v), 0)
		if !same(t, "Int", dec.Int(v), api.OK, want, api.OK) {
			t.Fatalf("Int(%d)", v)
		}
	}
}

func TestMade(t *testing.T) {
	ones, noughts := strings.Repeat("1", 8192), strings.Repeat("0", 30000)
	for _, c := range []struct {
		neg    bool
		digits string
		exp    int
		want   api.Dec
		no     api.Errno
	}{
		{true, "0150", 2, n("15", 3), api.OK}, {false, "15", 0, d("15", 0), api.OK}, {false, "007", -3, d("7", -3), api.OK}, {true, "1001000", -3, n("1001", 0), api.OK},
		// the nought, whatever sign and exponent
		{false, "", 0, nought, api.OK}, {true, "", 5, nought, api.OK}, {true, "0", -5, nought, api.OK}, {true, "000", 99999, nought, api.OK}, {true, noughts, math.MaxInt, nought, api.OK}, {false, "", math.MinInt, nought, api.OK}, {false, "00", math.MinInt, nought, api.OK},
		// a byte that is no digit, ahead of all else
		{false, "1x", 0, nought, api.ErrForm}, {false, "-1", 0, nought, api.ErrForm}, {false, "+1", 0, nought, api.ErrForm}, {false, "1.5", 0, nought, api.ErrForm}, {false, " ", 0, nought, api.ErrForm}, {false, "1e5", 0, nought, api.ErrForm}, {false, "/", 0, nought, api.ErrForm}, {false, ":", 0, nought, api.ErrForm}, {false, "\xff", 0, nought, api.ErrForm}, {false, "٣", 0, nought, api.ErrForm}, {false, "0x", 20001, nought, api.ErrForm}, {false, ones + "1x", 20001, nought, api.ErrForm}, {false, "x" + ones + "1", 20001, nought, api.ErrForm},
		// the ends of the range
		{false, "1", 20000, d("1", 20000), api.OK}, {false, "1", 20001, nought, api.ErrRange}, {false, "1", -20000, d("1", -20000), api.OK}, {true, "1", -20001, nought, api.ErrRange},
		{false, "10", 19999, d("1", 20000), api.OK}, {false, "10", 20000, nought, api.ErrRange}, {false, "10", -20001, d("1", -20000), api.OK}, {false, "10", -20002, nought, api.ErrRange},
		{false, "3" + noughts, -30000, d("3", 0), api.OK}, {false, "3" + noughts, -50000, d("3", -20000), api.OK}, {false, "3" + noughts, -50001, nought, api.ErrRange}, {false, "3" + noughts, -10000, d("3", 20000), api.OK}, {false, "3" + noughts, -9999, nought, api.ErrRange},
		{false, "1", math.MaxInt, nought, api.ErrRange}, {false, "10", math.MaxInt, nought, api.ErrRange}, {false, "1" + noughts, math.MaxInt - 29999, nought, api.ErrRange}, {false, "1", math.MinInt, nought, api.ErrRange}, {false, "10", math.MinInt, nought, api.ErrRange}, {false, "1" + noughts, math.MinInt, nought, api.ErrRange},
		// room, which comes ahead of the range
		{false, ones, 0, d(ones, 0), api.OK}, {false, ones + "1", 0, nought, api.ErrRoom}, {false, noughts + ones + noughts, -7, d(ones, 29993), api.ErrRange}, {true, "00" + ones + "0", 0, n(ones, 1), api.OK}, {false, ones + "0000000000", 99999, nought, api.ErrRange},
		{false, ones + "1", 20001, nought, api.ErrRoom}, {false, ones + "1", math.MaxInt, nought, api.ErrRoom}, {false, ones + "1", math.MinInt, nought, api.ErrRoom}, {false, "1" + noughts + "1", 0, nought, api.ErrRoom}, {false, ones + "01", -20001, nought, api.ErrRoom},
	} {
		if c.no != api.OK {
			c.want = nought
		}
		a, e := dec.Made(c.neg, c.digits, c.exp)
		if !same(t, "Made", a, e, c.want, c.no) {
			t.Errorf("Made(%v, %d digits, %d)", c.neg, len(c.digits), c.exp)
		}
	}
	r := rand.New(rand.NewSource(4))
	for range 2000 {
		want := anyOf(r, 40, 20000)
		ahead, behind := r.Intn(5), r.Intn(5)
		a, e := dec.Made(want.Neg, noughts[:ahead]+want.Digits+noughts[:behind], want.Exp-behind)
		if !same(t, "Made", a, e, want, api.OK) {
			break
		}
	}
}

// P2.3

func TestNeg(t *testing.T) {
	a, e := dec.Neg(nought)
	same(t, "Neg(0)", a, e, nought, api.OK)
	for _, a := range mayBe()[1:] {
		b, e := dec.Neg(a)
		want := a
		want.Neg = !a.Neg
		same(t, "Neg", b, e, want, api.OK)
	}
}

func TestExactEdges(t *testing.T) {
	ones, nines := strings.Repeat("1", 8192), strings.Repeat("9", 8192)
	for _, c := range []struct {
		name string
		call func(a, b api.Dec) (api.Dec, api.Errno)
		a, b api.Dec
		want api.Dec
		no   api.Errno
	}{
		{"sum", dec.Add, d("15", -1), d("5", -1), d("2", 0), api.OK},
		{"sum of unlike signs", dec.Add, n("5", 0), d("3", 0), n("2", 0), api.OK},
		{"sum, the other sign", dec.Add, n("3", 0), d("5", 0), d("2", 0), api.OK},
		{"sum to nought", dec.Add, n("7", -20000), d("7", -20000), nought, api.OK},
		{"sum of noughts", dec.Add, nought, nought, nought, api.OK},
		{"nought and the far end", dec.Add, nought, n("1", 20000), n("1", 20000), api.OK},
		{"near end and nought", dec.Add, d("1", -20000), nought, d("1", -20000), api.OK},
		{"8192 digits", dec.Add, d("1", 8191), d("1", 0), d("1"+strings.Repeat("0", 8190)+"1", 0), api.OK},
		{"8193 digits", dec.Add, d("1", 8192), d("1", 0), nought, api.ErrRoom},
		{"40001 digits", dec.Add, d("1", 20000), d("1", -20000), nought, api.ErrRoom},
		{"nines that carry", dec.Add, d(nines, 0), d("1", 0), d("1", 8192), api.OK},
		{"nines that carry out of range", dec.Add, d(nines, 20000), d("1", 20000), nought, api.ErrRange},
		{"a digit more", dec.Add, d(nines, 0), d("2", 0), nought, api.ErrRoom},
		{"room ahead of range", dec.Add, d(nines, 20000), d("2", 20000), nought, api.ErrRoom},
		{"out of range", dec.Add, d("9", 20000), d("1", 20000), nought, api.ErrRange},
		{"out of range below 0", dec.Sub, n("9", 20000), d("1", 20000), nought, api.ErrRange},
		{"difference", dec.Sub, d("1", 3), d("1", 0), d("999", 0), api.OK},
		{"difference below 0", dec.Sub, d("1", -3), d("1", 0), n("999", -3), api.OK},
		{"difference of the same", dec.Sub, d(ones, 20000), d(ones, 20000), nought, api.OK},
		{"difference of what is below 0", dec.Sub, d("1", 0), n("1", 0), d("2", 0), api.OK},
		{"nought less something", dec.Sub, nought, d("7", 9), n("7", 9), api.OK},
		{"one less digit has room", dec.Sub, d("1", 8192), d("1", 0), d(nines, 0), api.OK},
		{"digits that fall away", dec.Sub, d("1"+strings.Repeat("0", 8190)+"1", 0), d("1", 8191), d("1", 0), api.OK},
		{"8193 digits wide, few left", dec.Sub, d("1", 8192), d(nines, 0), d("1", 0), api.OK},
		{"product", dec.Mul, d("5", -1), d("2", 0), d("1", 0), api.OK},
		{"product of two below 0", dec.Mul, n("3", 0), n("3", 5), d("9", 5), api.OK},
		{"product of one below 0", dec.Mul, d("3", 0), n("3", 5), n("9", 5), api.OK},
		{"product with nought", dec.Mul, nought, n("3", 20000), nought, api.OK},
		{"product with nought, far", dec.Mul, n(ones, 20000), nought, nought, api.OK},
		{"product of noughts", dec.Mul, nought, nought, nought, api.OK},
		{"product out of range", dec.Mul, d("1", 15000), d("1", 15000), nought, api.ErrRange},
		{"product below the range", dec.Mul, d("1", -15000), n("1", -15000), nought, api.ErrRange},
		{"product at the far end", dec.Mul, d("1", 15000), d("1", 5000), d("1", 20000), api.OK},
		{"noughts lift it into range", dec.Mul, d("5", -10001), d("2", -10000), d("1", -20000), api.OK},
		{"no noughts lift it", dec.Mul, d("5", -10001), d("3", -10000), nought, api.ErrRange},
		{"noughts lift it out of range", dec.Mul, d("5", 10000), d("2", 10000), nought, api.ErrRange},
		{"product of 8192 digits", dec.Mul, d(strings.Repeat("9", 4096), 0), d(strings.Repeat("9", 4096), 0), d(strings.Repeat("9", 4095)+"8"+strings.Repeat("0", 4095)+"1", 0), api.OK},
		{"product of more digits", dec.Mul, d(strings.Repeat("9", 4096), 0), d(strings.Repeat("9", 4097), 0), nought, api.ErrRoom},
		{"product without room ahead of range", dec.Mul, d(ones, 20000), d(ones, 20000), nought, api.ErrRoom},
		{"product without room, below the range", dec.Mul, d(ones, -20000), n(ones, -20000), nought, api.ErrRoom},
	} {
		a, e := c.call(c.a, c.b)
		same(t, c.name, a, e, c.want, c.no)
	}
}

// holds asks the three calls of two decimals against whole numbers.
func holds(t *testing.T, a, b api.Dec) bool {
	t.Helper()
	exp := min(a.Exp, b.Exp)
	p, q := scaled(a, exp), scaled(b, exp)
	sum, no := wanted(new(big.Int).Add(p, q), exp)
	is, e := dec.Add(a, b)
	right := same(t, "Add", is, e, sum, no)
	diff, no := wanted(new(big.Int).Sub(p, q), exp)
	is, e = dec.Sub(a, b)
	right = same(t, "Sub", is, e, diff, no) && right
	product, no := wanted(new(big.Int).Mul(scaled(a, a.Exp), scaled(b, b.Exp)), a.Exp+b.Exp)
	is, e = dec.Mul(a, b)
	right = same(t, "Mul", is, e, product, no) && right
	k, e := dec.Cmp(a, b)
	if k != p.Cmp(q) || e != api.OK {
		t.Errorf("Cmp: %d, %d; want %d", k, e, p.Cmp(q))
		right = false
	}
	if !right {
		t.Logf("of %+v and %+v", short(a), short(b))
	}
	return right
}

func TestExactAny(t *testing.T) {
	r := rand.New(rand.NewSource(5))
	for range 3000 {
		if !holds(t, anyOf(r, 30, 30), anyOf(r, 30, 30)) || !holds(t, anyOf(r, 3, 2), anyOf(r, 3, 2)) {
			return
		}
	}
	for range 150 {
		if !holds(t, anyOf(r, 8192, 20000), anyOf(r, 8192, 20000)) || !holds(t, anyOf(r, 5000, 3000), anyOf(r, 5000, 3000)) {
			return
		}
	}
	l := mayBe()
	for range 400 {
		if !holds(t, l[r.Intn(len(l))], l[r.Intn(len(l))]) {
			return
		}
	}
}

// P2.4

func TestCmpStands(t *testing.T) {
	ones := strings.Repeat("1", 8192)
	l := []api.Dec{n(ones, 20000), n("9", 20000), n("1", 20000), n("9", 19999), n("3", 0), n("21", -1), n("2", 0), n("199", -2), n("2", -1), n("1", -20000),
		nought, d("1", -20000), d("2", -20000), d("1", -19999), d("19", -2), d("2", -1), d("201", -3), d("1", 0), d("11", -1), d("2", 0), d("9", 0), d("1", 1), d("1200001", -3), d("12001", -1), d("13", 2), d(ones, 0), d("1", 8192), d("9", 19999), d("1", 20000), d("11", 20000), d(ones, 20000)}
	for i, a := range l {
		for j, b := range l {
			want := 0
			if i < j {
				want = -1
			} else if i > j {
				want = 1
			}
			if k, e := dec.Cmp(a, b); k != want || e != api.OK {
				t.Errorf("Cmp(%+v, %+v): %d, %d; want %d", short(a), short(b), k, e, want)
			}
		}
	}
}

// P2.5

func TestText(t *testing.T) {
	ones := strings.Repeat("1", 8192)
	for _, c := range []struct {
		a    api.Dec
		want string
	}{{nought, "0"}, {d("15", 0), "15"}, {n("15", 0), "-15"}, {d("15", 3), "15e3"}, {n("15", -1), "-15e-1"}, {d("1", 20000), "1e20000"}, {n("1", -20000), "-1e-20000"}, {n(ones, 20000), "-" + ones + "e20000"}, {d("7", 10), "7e10"}} {
		if s, e := dec.Text(c.a); s != c.want || e != api.OK {
			t.Errorf("Text(%+v): %q, %d; want %q", short(c.a), s, e, c.want)
		}
	}
}

func TestParse(t *testing.T) {
	ones, noughts := strings.Repeat("1", 8192), strings.Repeat("0", 60000)
	for _, c := range []struct {
		text string
		want api.Dec
		no   api.Errno
	}{
		{"0", nought, api.OK}, {"-0", nought, api.OK}, {"+1.50", d("15", -1), api.OK}, {".5", d("5", -1), api.OK}, {"5.", d("5", 0), api.OK}, {"-.5", n("5", -1), api.OK}, {"+5.e1", d("5", 1), api.OK}, {".5e1", d("5", 0), api.OK}, {"1.5", d("15", -1), api.OK}, {"0.05", d("5", -2), api.OK}, {"500.00", d("5", 2), api.OK}, {"-007.250e+1", n("725", -1), api.OK},
		{"1e5", d("1", 5), api.OK}, {"1E-2", d("1", -2), api.OK}, {"1E+02", d("1", 2), api.OK}, {"1e0", d("1", 0), api.OK}, {"1e-0", d("1", 0), api.OK}, {"10e-1", d("1", 0), api.OK},
		{"-0e99999", nought, api.OK}, {"0.000e-99999999999999999999999", nought, api.OK}, {"0e" + strings.Repeat("9", 5000), nought, api.OK},
		// an exponent of any length
		{"1e" + noughts + "7", d("1", 7), api.OK}, {"1e-" + noughts + "7", d("1", -7), api.OK}, {"1e" + strings.Repeat("9", 5000), nought, api.ErrRange}, {"1e-" + strings.Repeat("9", 5000), nought, api.ErrRange},
		{"1e9223372036854775807", nought, api.ErrRange}, {"1e9223372036854775808", nought, api.ErrRange}, {"1e-9223372036854775808", nought, api.ErrRange}, {"1e-9223372036854775809", nought, api.ErrRange}, {"1e18446744073709551616", nought, api.ErrRange}, {"1e18446744073709551621", nought, api.ErrRange}, {"1e-18446744073709551621", nought, api.ErrRange}, {"1e4294967301", nought, api.ErrRange}, {"1.5e-9223372036854775808", nought, api.ErrRange},
		{"1" + noughts + "e-60000", d("1", 0), api.OK}, {"1" + noughts + "e-80000", d("1", -20000), api.OK}, {"1" + noughts + "e-80001", nought, api.ErrRange}, {"0." + noughts + "1e80001", d("1", 20000), api.OK}, {"0." + noughts + "1e80002", nought, api.ErrRange}, {"." + noughts + "1e40001", d("1", -20000), api.OK}, {"." + noughts + "1e40000", nought, api.ErrRange}, {"1" + noughts, nought, api.ErrRange}, {"." + noughts + "1", nought, api.ErrRange},
		// the ends of the range
		{"1e20000", d("1", 20000), api.OK}, {"1e20001", nought, api.ErrRange}, {"10e20000", nought, api.ErrRange}, {"0.1e20001", d("1", 20000), api.OK}, {"-1e-20000", n("1", -20000), api.OK}, {"1e-20001", nought, api.ErrRange}, {"10e-20001", d("1", -20000), api.OK}, {"0.1e-20000", nought, api.ErrRange}, {"0.1e-19999", d("1", -20000), api.OK}, {"1e99999999999999999999", nought, api.ErrRange},
		// room, which comes ahead of the range, and no numeral, which comes ahead of both
		{ones, d(ones, 0), api.OK}, {"00" + ones[:92] + "." + ones[92:] + "00", d(ones, -8100), api.OK}, {ones + "1", nought, api.ErrRoom}, {ones + ".1", nought, api.ErrRoom}, {"-" + ones + "1e99999", nought, api.ErrRoom}, {ones + "1e-99999", nought, api.ErrRoom}, {ones + "1x", nought, api.ErrForm}, {ones + "1e99999x", nought, api.ErrForm}, {"1e99999x", nought, api.ErrForm}, {"0x", nought, api.ErrForm},
	} {
		a, e := dec.Parse(c.text)
		if !same(t, "Parse", a, e, c.want, c.no) {
			t.Errorf("Parse of %d bytes, %.40q", len(c.text), c.text)
		}
	}
	for _, text := range []string{"", ".", "+", "-", "-.", "+.e1", "1e", "1e+", "1e-", "e1", ".e1", "--1", "+-1", "-+1", " 1", "1 ", "1 2", "1.2.3", "..1", "1..", "1e1.5", "1e5e5", "1e--1", "1e 1", "0x1", "1_0", "1,5", "Inf", "NaN", "1f", "1e1f", "½", "٣", "1\x00", "\xff", "1\xff", "1e\xff", "1e1\n"} {
		a, e := dec.Parse(text)
		if !same(t, "Parse", a, e, nought, api.ErrForm) {
			t.Errorf("Parse(%q)", text)
		}
	}
}

// Every text of few bytes is held against the numerals' form and value.
func TestParseShort(t *testing.T) {
	form := regexp.MustCompile(`^[+-]?([0-9]+\.?[0-9]*|\.[0-9]+)([eE][+-]?[0-9]+)?$`)
	thousand := new(big.Int).Exp(big.NewInt(10), big.NewInt(1000), nil)
	texts := []string{""}
	for len(texts[0]) < 6 && !t.Failed() {
		var longer []string
		for _, text := range texts {
			for _, c := range "+-.e05x" {
				longer = append(longer, text+string(c))
			}
		}
		texts = longer
		for _, text := range texts {
			a, e := dec.Parse(text)
			want, no := nought, api.ErrForm
			if form.MatchString(text) {
				v, ok := new(big.Rat).SetString(strings.TrimPrefix(text, "+"))
				if !ok {
					t.Fatalf("no value of %q", text)
				}
				// No exponent of so few bytes is below -999.
				v.Mul(v, new(big.Rat).SetInt(thousand))
				want, no = wanted(v.Num(), -1000)
			}
			if !same(t, "Parse", a, e, want, no) {
				t.Fatalf("Parse(%q)", text)
			}
		}
	}
}

// P2.6

func TestParseOfText(t *testing.T) {
	l := mayBe()
	r := rand.New(rand.NewSource(6))
	for range 2000 {
		l = append(l, anyOf(r, 50, 20000))
	}
	for _, a := range l {
		s, e := dec.Text(a)
		b, f := dec.Parse(s)
		if e != api.OK || !same(t, "Parse of Text", b, f, a, api.OK) {
			break
		}
	}
}

func TestCmpNought(t *testing.T) {
	l := mayBe()
	for _, a := range l {
		for _, b := range l {
			k, e := dec.Cmp(a, b)
			if (k == 0) != (a == b) || e != api.OK {
				t.Fatalf("Cmp(%+v, %+v): %d, %d", short(a), short(b), k, e)
			}
		}
	}
}

// all tells whether no step was refused.
func all(l ...api.Errno) bool {
	for _, e := range l {
		if e != api.OK {
			return false
		}
	}
	return true
}

func TestLaws(t *testing.T) {
	r := rand.New(rand.NewSource(7))
	taken := 0
	for i := range 3000 {
		most, far := 25, 40
		if i%3 == 0 {
			most, far = 4, 20000
		}
		a, b, c := anyOf(r, most, far), anyOf(r, most, far), anyOf(r, most, far)
		if i%10 == 1 {
			a = nought
		}
		ab, e1 := dec.Add(a, b)
		ba, e2 := dec.Add(b, a)
		same(t, "a+b and b+a", ab, e1, ba, e2)
		times, f1 := dec.Mul(a, b)
		semit, f2 := dec.Mul(b, a)
		same(t, "a*b and b*a", times, f1, semit, f2)

		less, e3 := dec.Neg(b)
		sub, e4 := dec.Sub(a, b)
		plus, e5 := dec.Add(a, less)
		same(t, "a-b and a+(-b)", sub, e4, plus, e5)
		if e3 != api.OK {
			t.Errorf("Neg: %d", e3)
		}
		if e1 == api.OK {
			back, e := dec.Sub(ab, b)
			same(t, "(a+b)-b", back, e, a, api.OK)
		}

		bc, e6 := dec.Add(b, c)
		left, e7 := dec.Add(ab, c)
		right, e8 := dec.Add(a, bc)
		if all(e1, e6, e7, e8) {
			taken++
			same(t, "(a+b)+c and a+(b+c)", left, e7, right, e8)
		}
		bcTimes, f3 := dec.Mul(b, c)
		left, f4 := dec.Mul(times, c)
		right, f5 := dec.Mul(a, bcTimes)
		if all(f1, f3, f4, f5) {
			taken++
			same(t, "(a*b)*c and a*(b*c)", left, f4, right, f5)
		}
		ac, g1 := dec.Mul(a, c)
		left, g2 := dec.Mul(ab, c)
		right, g3 := dec.Add(ac, bcTimes)
		if all(e1, g1, f3, g2, g3) {
			taken++
			same(t, "(a+b)*c and a*c+b*c", left, g2, right, g3)
		}
		if t.Failed() {
			t.Fatalf("a %+v, b %+v, c %+v", a, b, c)
		}
	}
	if taken < 3000 {
		t.Errorf("only %d laws were asked", taken)
	}
}

// P2.7

func TestOfDigits(t *testing.T) {
	most := 0
	for _, x := range numbers() {
		a, e := dec.Of(x)
		if e != api.OK || len(a.Digits) > 767 {
			t.Errorf("Of(%v): %d digits, %d", x, len(a.Digits), e)
		}
		most = max(most, len(a.Digits))
	}
	if most != 767 {
		t.Errorf("at most %d digits, want 767 of 2^-1074 (2^53 - 1)", most)
	}
}

func TestOfStands(t *testing.T) {
	l := numbers()
	l = append(l[:60], l[len(l)/2:len(l)/2+60]...)
	for _, x := range []float64{1, 0.1, 1e22, 0x1p-1022, math.MaxFloat64} {
		l = append(l, x, -x, math.Nextafter(x, 0), -math.Nextafter(x, 0))
	}
	for _, x := range l {
		a, _ := dec.Of(x)
		for _, y := range l {
			b, _ := dec.Of(y)
			want := 0
			if x < y {
				want = -1
			} else if x > y {
				want = 1
			}
			if k, e := dec.Cmp(a, b); k != want || e != api.OK || (a == b) != (x == y) {
				t.Fatalf("%v and %v: Cmp %d, %d; want %d", x, y, k, e, want)
			}
		}
	}
}
