package number_test

import (
	"fmt"
	"math"
	"math/big"
	"math/rand"
	"regexp"
	"slices"
	"sort"
	"strconv"
	"strings"
	"testing"

	"quadrille/api"
	"quadrille/dec"
	"quadrille/number"
	"quadrille/parts"
)

const (
	greatest = math.MaxFloat64
	least    = 0x1p-1074
	nanBits  = 0x7FF8000000000000
	infBits  = 0x7FF0000000000000
)

var (
	inf    = math.Inf(1)
	minus0 = math.Copysign(0, -1)
)

func pat(x float64) uint64   { return math.Float64bits(x) }
func pat32(y float32) uint32 { return math.Float32bits(y) }

func noughts(n int) string { return strings.Repeat("0", n) }

// cutShort tells a text without flooding the test's log.
func cutShort(text string) string {
	if len(text) > 80 {
		return fmt.Sprintf("%s..%s (%d bytes)", text[:40], text[len(text)-30:], len(text))
	}
	return text
}

// nans are float64s that are no number of mathematics.
func nans() []float64 {
	var l []float64
	for _, b := range []uint64{1, 2, 1<<51 - 1, 1 << 51, 1<<51 + 1, 1 << 29, 1<<52 - 1} {
		l = append(l, math.Float64frombits(0x7FF<<52|b), math.Float64frombits(0xFFF<<52|b))
	}
	return l
}

// numbers are finite ones: the edges, their neighbours, and some others; both signs.
func numbers(others int) []float64 {
	r := rand.New(rand.NewSource(51))
	var l []float64
	add := func(x float64) {
		if x-x == 0 {
			l = append(l, x, -x)
		}
	}
	for _, x := range []float64{0, least, 2 * least, 3 * least, 0x1p-1023, 0x1p-1022, 0.1, 0.5, 1, 1.5, 2.5, 10, 0x1p53, 0x1p63, 0x1p64, 1e15, 1e16, 1e17, 1e20, 1e21, 1e22, 1e23, 1e-5, 1e-6, 1e-7, 1e-8, 5e-7, 9.995, 123.456, 1e300, 0x1p1023, greatest, math.MaxFloat32, 0x1p-149, 0x1p-126} {
		add(x)
		add(math.Nextafter(x, inf))
		add(math.Nextafter(x, -inf))
	}
	for range others {
		add(math.Float64frombits(r.Uint64()))
		add(math.Float64frombits(r.Uint64() >> uint(12+r.Intn(52)))) // subnormal
		add(float64(math.Float32frombits(r.Uint32())))
		add(float64(r.Intn(1_000_000)) / 1000)
	}
	return l
}

// powers are all powers of two, and their neighbours.
func powers() []float64 {
	var l []float64
	for e := -1074; e < 1024; e++ {
		x := math.Ldexp(1, e)
		l = append(l, x, math.Nextafter(x, 0), math.Nextafter(x, inf))
	}
	return l
}

// What the tests know of texts: the document's words as regular expressions.
var (
	decimalForm = `(?:[0-9]+\.?[0-9]*|\.[0-9]+)(?:[eE][+-]?[0-9]+)?`
	hexForm     = `0[xX](?:[0-9a-fA-F]+\.?[0-9a-fA-F]*|\.[0-9a-fA-F]+)(?:[pP][+-]?[0-9]+)?`
	bareForm    = regexp.MustCompile(`^(?:` + decimalForm + `|` + hexForm + `)$`)
	numberForm  = regexp.MustCompile(`^(?:NaN|[+-]?(?:Inf|` + decimalForm + `|` + hexForm + `))$`)
)

// value is what a bare text stands for. Its exponent has at most four digits.
func value(text string) *big.Rat {
	base, power, marks := 10, int64(10), "eE"
	if len(text) > 1 && (text[1] == 'x' || text[1] == 'X') {
		base, power, marks, text = 16, 2, "pP", text[2:]
	}
	front, exp := text, int64(0)
	if i := strings.IndexAny(text, marks); i >= 0 {
		front = text[:i]
		exp, _ = strconv.ParseInt(text[i+1:], 10, 64)
	}
	whole, behind, _ := strings.Cut(front, ".")
	n, _ := new(big.Int).SetString(whole+behind, base)
	v := new(big.Rat).SetFrac(n, new(big.Int).Exp(big.NewInt(int64(base)), big.NewInt(int64(len(behind))), nil))
	p := new(big.Rat).SetInt(new(big.Int).Exp(big.NewInt(power), big.NewInt(max(exp, -exp)), nil))
	if exp < 0 {
		p.Inv(p)
	}
	return v.Mul(v, p)
}

// A kind of numbers, as the tests know it: the bits of its infinity, 2^top, at which it ends, and the float64 of its bits.
type kind struct {
	infinity uint64
	top      int
	float    func(b uint64) float64
}

func kind64() kind { return kind{infBits, 1024, math.Float64frombits} }

func kind32() kind {
	return kind{0x7F800000, 128, func(b uint64) float64 { return float64(math.Float32frombits(uint32(b))) }}
}

// worth is the value of bits without a sign; the infinity stands for the first number beyond the greatest one.
func (k kind) worth(b uint64) *big.Rat {
	if b == k.infinity {
		return new(big.Rat).SetInt(new(big.Int).Lsh(big.NewInt(1), uint(k.top)))
	}
	return new(big.Rat).SetFloat64(k.float(b))
}

// nearest rounds a value that is not below 0, by the document's words: it looks for the two that are beside the value, and asks how the value stands against their middle.
func (k kind) nearest(v *big.Rat) uint64 {
	low := uint64(sort.Search(int(k.infinity), func(i int) bool { return v.Cmp(k.worth(uint64(i)+1)) < 0 }))
	if low == k.infinity {
		return low
	}
	middle := new(big.Rat).Add(k.worth(low), k.worth(low+1))
	if c := v.Cmp(middle.Mul(middle, big.NewRat(1, 2))); c > 0 || c == 0 && low%2 == 1 {
		low++
	}
	return low
}

// parsed, singled ask that a text be read as those bits.
func parsed(t *testing.T, text string, want uint64) {
	t.Helper()
	if x, e := number.Parse(text); pat(x) != want || e != api.OK {
		t.Errorf("Parse %q: %x (%x) %d; want %x", cutShort(text), pat(x), x, e, want)
	}
}

func singled(t *testing.T, text string, want uint32) {
	t.Helper()
	if y, e := number.Single(text); pat32(y) != want || e != api.OK {
		t.Errorf("Single %q: %x (%x) %d; want %x", cutShort(text), pat32(y), y, e, want)
	}
}

// parsedNot, singledNot ask that it be refused, with +0 beside the error.
func parsedNot(t *testing.T, text string, want api.Errno) {
	t.Helper()
	if x, e := number.Parse(text); pat(x) != 0 || e != want {
		t.Errorf("Parse %q: %x %d; want error %d", cutShort(text), pat(x), e, want)
	}
}

func singledNot(t *testing.T, text string, want api.Errno) {
	t.Helper()
	if y, e := number.Single(text); pat32(y) != 0 || e != want {
		t.Errorf("Single %q: %x %d; want error %d", cutShort(text), pat32(y), e, want)
	}
}

// readAs asks that a bare text, and it behind either sign, be read as that value is rounded, or be ErrOver.
func readAs(t *testing.T, text string, v *big.Rat) {
	t.Helper()
	b, b32 := kind64().nearest(v), uint32(kind32().nearest(v))
	for _, s := range []string{"", "+", "-"} {
		sign := uint64(0)
		if s == "-" {
			sign = 1 << 63
		}
		if b == infBits {
			parsedNot(t, s+text, api.ErrOver)
		} else {
			parsed(t, s+text, b|sign)
		}
		if b32 == 0x7F800000 {
			singledNot(t, s+text, api.ErrOver)
		} else {
			singled(t, s+text, b32|uint32(sign>>32))
		}
	}
}

// ---- P5.1

func TestParse(t *testing.T) {
	for text, want := range map[string]float64{
		"0": 0, "1": 1, "7": 7, "10": 10, "123456789": 123456789, "0.1": 0.1, "0.25": 0.25, "1.5": 1.5, "12.75": 12.75,
		".5": 0.5, "5.": 5, "-0": minus0, "+0": 0, "-1": -1, "+1e2": 100, "1E2": 100, "1e+2": 100, "1e-2": 0.01, "15e-1": 1.5, "-2.5e3": -2500,
		"0x1": 1, "0xf": 15, "0XF": 15, "0xaBcDeF": 0xabcdef, "0x10": 16, "0x.8": 0.5, "0x8.": 8, "0x1.8": 1.5, "0x1.8p1": 3, "0xfP-1": 7.5, "0x1p+4": 16, "-0x1p-2": -0.25, "+0xAp0": 10, "-0x0": minus0,
		"0x1e2": 0x1e2, // an e is a digit there
		"Inf":   inf, "+Inf": inf, "-Inf": -inf,
		"1e-400": 0, "-1e-400": minus0, "0e999999999999": 0, "-1e-999": minus0,
		"9007199254740993": 9007199254740992, "9007199254740993.0000001": 9007199254740994,
		"2.4703282292062327208e-324": 0, "2.4703282292062328e-324": least, "179769313486231580793e288": greatest,
		"2.2250738585072011e-308": 0x0.fffffffffffffp-1022, "2.2250738585072012e-308": 0x1p-1022, "4.9e-324": least, "1.7976931348623157e308": greatest,
		"1e23": 1e23, "8.988465674311580e307": 0x1p1023,
	} {
		parsed(t, text, pat(want))
	}
	parsed(t, "NaN", nanBits)
}

func TestSingle(t *testing.T) {
	for text, want := range map[string]uint32{
		"0": 0, "-0": 0x80000000, "1": 0x3F800000, "-1": 0xBF800000, "0.1": 0x3DCCCCCD, "0x1.99999ap-4": 0x3DCCCCCD, "16777216": 0x4B800000, "16777217": 0x4B800000, "16777219": 0x4B800002,
		"Inf": 0x7F800000, "+Inf": 0x7F800000, "-Inf": 0xFF800000, "NaN": 0x7FC00000,
		"3.4028235677973366e38": 0x7F7FFFFF, "-3.4028235677973366e38": 0xFF7FFFFF, "0x1.fffffefffffffffffp127": 0x7F7FFFFF,
		"1e-45": 1, "1.4e-45": 1, "0x1p-149": 1, "-0x1p-149": 0x80000001, "0x1p-150": 0, "-0x1p-150": 0x80000000, "0x1.000001p-150": 1, "1e-46": 0, "-1e-999": 0x80000000,
		"0x1p-126": 0x00800000, "0x0.fffffep-126": 0x007FFFFF, "1.17549435e-38": 0x00800000,
	} {
		singled(t, text, want)
	}
	for _, text := range []string{"3.4028235677973367e38", "-3.4028235677973367e38", "0x1.ffffffp127", "0x1p128", "1e39", "-1e39", "1e308", "1e400", "1e99999999999999999999", "0x1p99999999999999999999"} {
		singledNot(t, text, api.ErrOver)
	}
}

// A single is rounded once: where it is rounded to a number first, it may be another one.
func TestSingleOnce(t *testing.T) {
	for text, want := range map[string]uint32{
		"0x1.000001p0":                  0x3F800000, // a half
		"0x1.0000010000000000001p0":     0x3F800001, // a number would be that half
		"1.00000005960464477539062501":  0x3F800001,
		"1.000000059604644775390625":    0x3F800000,
		"0x1.000002fffffffffffffffp0":   0x3F800001,
		"0x1.000003p0":                  0x3F800002,
		"7.00649232162408535461864e-46": 0,
		"7.00649232162408535461865e-46": 1,
		"0x1.00000000000000000000p-150": 0,
		"0x1.00000000000000000001p-150": 1,
	} {
		singled(t, text, want)
		singled(t, "-"+text, want|1<<31)
	}
}

// Points ahead, among, behind and left out, of both bases.
func TestPoints(t *testing.T) {
	for _, text := range []string{"12345", "1234.5e1", "123.45E2", "1.2345e+4", ".12345e5", "12345.", "12345.0", "012345", "12345e0", "12345.e-0", "123450e-1", "0x3039", "0x303.9p4", "0x30.39p8", "0x3.039P+12", "0x.3039p16", "0x3039.", "0x3039.00", "0x0003039", "0x30390p-4", "0X3039p0", "0x3039.p-0"} {
		parsed(t, text, pat(12345))
		singled(t, text, pat32(12345))
	}
}

// All texts of few letters: which are numbers' texts, and what they are read as.
func TestAllShortTexts(t *testing.T) {
	letters := "019.eEpxX+-fF"
	texts := []string{""}
	from := 0
	for size := range 5 {
		end := len(texts)
		for _, text := range texts[from:end] {
			for i := range len(letters) {
				if size == 4 && strings.IndexByte("9EXF", letters[i]) >= 0 {
					continue
				}
				texts = append(texts, text+letters[i:i+1])
			}
		}
		from = end
	}
	for _, text := range texts {
		askForm(t, text)
	}
}

// askForm asks how Parse, Single and Prefix find a text.
func askForm(t *testing.T, text string) {
	t.Helper()
	if !numberForm.MatchString(text) {
		parsedNot(t, text, api.ErrForm)
		singledNot(t, text, api.ErrForm)
	} else if bareForm.MatchString(text) {
		v := value(text)
		b, b32 := kind64().nearest(v), uint32(kind32().nearest(v))
		x, e := number.Parse(text)
		if b == infBits && (pat(x) != 0 || e != api.ErrOver) || b != infBits && (pat(x) != b || e != api.OK) {
			t.Errorf("Parse %q: %x %d; want %x", text, pat(x), e, b)
		}
		y, e := number.Single(text)
		if b32 == 0x7F800000 && (pat32(y) != 0 || e != api.ErrOver) || b32 != 0x7F800000 && (pat32(y) != b32 || e != api.OK) {
			t.Errorf("Single %q: %x %d; want %x", text, pat32(y), e, b32)
		}
	}
	if n := number.Prefix(text); n != prefix(text) {
		t.Errorf("Prefix %q: %d; want %d", text, n, prefix(text))
	}
}

// prefix looks for the longest bare text, from the whole text down.
func prefix(text string) int {
	for n := len(text); n > 0; n-- {
		if bareForm.MatchString(text[:n]) {
			return n
		}
	}
	return 0
}

// anyBare makes bare texts of both kinds.
func anyBare(r *rand.Rand) string {
	digits, head, marks, far := "0123456789", "", "eE", 330
	if r.Intn(2) == 0 {
		digits, head, marks, far = "0123456789abcdefABCDEF", []string{"0x", "0X"}[r.Intn(2)], "pP", 1100
	}
	some := func(n int) string {
		b := make([]byte, n)
		for i := range b {
			b[i] = digits[r.Intn(len(digits))]
		}
		return string(b)
	}
	text := head + noughts(r.Intn(3)) + some(1+r.Intn(20))
	if r.Intn(3) > 0 {
		text += "." + some(r.Intn(20)) + noughts(r.Intn(3))
	} else if r.Intn(4) == 0 {
		text = head + "." + some(1+r.Intn(25))
	}
	if r.Intn(4) > 0 {
		text += marks[r.Intn(2):][:1] + []string{"", "+", "-"}[r.Intn(3)] + noughts(r.Intn(3)) + strconv.Itoa(r.Intn(far))
	}
	return text
}

func TestAnyTexts(t *testing.T) {
	r := rand.New(rand.NewSource(52))
	for range 4000 {
		text := anyBare(r)
		readAs(t, text, value(text))
	}
}

// Texts with a byte put in, taken out, put in another's place.
func TestSpoiltTexts(t *testing.T) {
	r := rand.New(rand.NewSource(53))
	letters := "0123456789abcdefgxpXPEInfNa+-.._, \x00\xff"
	for range 20000 {
		text := anyBare(r)
		i, j := r.Intn(len(text)), r.Intn(len(letters))
		switch r.Intn(3) {
		case 0:
			text = text[:i] + letters[j:j+1] + text[i:]
		case 1:
			text = text[:i] + text[i+1:]
		case 2:
			text = text[:i] + letters[j:j+1] + text[i+1:]
		}
		if exponentOfFour(text) {
			askForm(t, text)
		}
	}
}

// exponentOfFour tells whether a text's exponent, if it has one, is short enough for value.
func exponentOfFour(text string) bool {
	i := strings.LastIndexAny(text, "eEpP")
	return i < 0 || len(text)-i <= 5
}

// Noughts ahead and behind, of exponents too.
func TestNoughts(t *testing.T) {
	for _, n := range []int{0, 1, 2, 19, 20, 64, 400, 4000} {
		z := noughts(n)
		for _, text := range []string{z + "12.5", "12.5" + z, z + "12.50" + z, z + ".125e2", "1.25e" + z + "1", "125E-" + z + "1", "1.25e+" + z + "1", "0." + z + "125e" + strconv.Itoa(n+2), "125" + z + "e-" + strconv.Itoa(n+1), "125" + z + ".e-" + strconv.Itoa(n+1)} {
			parsed(t, text, pat(12.5))
			singled(t, text, pat32(12.5))
		}
		for _, text := range []string{"0x" + z + "c.8", "0xC.8" + z, "0X" + z + "c.80" + z, "0x" + z + ".c8p4", "0x1.9p" + z + "3", "0x19p-" + z + "1", "0x1.9P+" + z + "3", "0x." + z + "c8p" + strconv.Itoa(4*n+4), "0xc8" + z + "p-" + strconv.Itoa(4*n+4)} {
			parsed(t, text, pat(12.5))
			singled(t, text, pat32(12.5))
		}
		for _, text := range []string{z + "0", z + "0." + z, z + "." + z + "0", z + "0e" + z + "9", z + "0.e-" + z + "7", "0x" + z + "0", "0x0." + z, "0x." + z + "0p" + z + "5"} {
			for s, sign := range map[string]uint64{"": 0, "+": 0, "-": 1 << 63} {
				parsed(t, s+text, sign)
				singled(t, s+text, uint32(sign>>32))
			}
		}
	}
}

// Exponents greater than any whole number of 64 bits, and those that one might wrap round.
func TestFarExponents(t *testing.T) {
	l := []string{"1201", "2000", "5000", "10001", "20001", "30000", "2147483647", "2147483648", "4294967296", "4294967297", "9223372036854775807", "9223372036854775808", "9223372036854775809", "18446744073709551615", "18446744073709551616", "18446744073709551617", "36893488147419103233", "99999999999999999999", "340282366920938463463374607431768211457", "1" + noughts(100), "000009999999999999999999999", strings.Repeat("9", 8000)}
	for _, exp := range l {
		for _, front := range []string{"1e", "12.5E", ".001e+", "9.E", "1000e", "1" + noughts(100) + "e"} {
			parsedNot(t, front+exp, api.ErrOver)
			parsedNot(t, "-"+front+exp, api.ErrOver)
			singledNot(t, front+exp, api.ErrOver)
		}
		for _, front := range []string{"0x1p", "0xf.8P", "0x.001p+", "0xa.p", "0x1" + noughts(100) + "p"} {
			parsedNot(t, front+exp, api.ErrOver)
			parsedNot(t, "-"+front+exp, api.ErrOver)
			singledNot(t, front+exp, api.ErrOver)
		}
		for _, text := range []string{"1e-", "12.5E-", ".1e-", "99999999999999999999e-", "0x1p-", "0xf.8P-", "0x.1p-", "0xffffffffffffffffffffp-"} {
			parsed(t, text+exp, 0)
			parsed(t, "-"+text+exp, 1<<63)
			singled(t, text+exp, 0)
			singled(t, "-"+text+exp, 1<<31)
		}
		for _, text := range []string{"0e", "0.0e+", ".0E-", "0e-", "0x0p", "0x0.0p+", "0x.0P-", "0x0p-"} {
			parsed(t, text+exp, 0)
			parsed(t, "-"+text+exp, 1<<63)
			singled(t, text+exp, 0)
			singled(t, "-"+text+exp, 1<<31)
		}
	}
}

// Exponents that many digits bring back.
func TestExponentsBroughtBack(t *testing.T) {
	for _, n := range []int{1, 300, 308, 309, 1000, 4000, 8100, 8170} {
		for _, by := range []int{-330, -324, -323, -308, -46, -45, -1, 0, 1, 38, 39, 308, 309} {
			v := value("1e" + strconv.Itoa(by))
			readAs(t, "0."+noughts(n-1)+"1e"+strconv.Itoa(n+by), v)
			readAs(t, "1"+noughts(n)+"e"+strconv.Itoa(by-n), v)
		}
		for _, by := range []int{-1076, -1075, -1074, -1023, -1022, -151, -150, -149, -1, 0, 1, 127, 128, 1023, 1024} {
			v := value("0x1p" + strconv.Itoa(by))
			readAs(t, "0x."+noughts(n-1)+"1p"+strconv.Itoa(4*n+by), v)
			readAs(t, "0x1"+noughts(n)+"p"+strconv.Itoa(by-4*n), v)
		}
	}
}

// places is how many places the decimal of a value has, whose denominator is a power of two.
func places(v *big.Rat) int { return v.Denom().BitLen() - 1 }

// tiny is 10^-n.
func tiny(n int) *big.Rat {
	return new(big.Rat).SetFrac(big.NewInt(1), new(big.Int).Exp(big.NewInt(10), big.NewInt(int64(n)), nil))
}

// Decimal halves between two of a kind that are beside each other just met; and a digit far behind them more and less.
func askHalf(k kind, b uint64, ask func(text string, b uint64)) {
	low, high := k.worth(b), k.worth(b+1)
	half := new(big.Rat).Add(low, high)
	half.Mul(half, big.NewRat(1, 2))
	even := b + b%2
	p := places(half)
	text := half.FloatString(p)
	ask(text, even)
	if p == 0 {
		text += "."
	}
	for _, n := range []int{0, 1, 20, 1000, api.MaxDigits - 2 - len(text)} {
		ask(text+noughts(n), even)
		ask(text+noughts(n)+"1", b+1)
	}
	for _, n := range []int{p + 1, p + 7, p + 500, p + api.MaxDigits - 1 - len(text)} {
		ask(new(big.Rat).Sub(half, tiny(n)).FloatString(n), b)
	}
}

// Hexadecimal ones.
func askHexHalf(k kind, b uint64, ask func(text string, b uint64)) {
	low, high := k.worth(b), k.worth(b+1)
	sum := new(big.Rat).Add(low, high)
	// The half is m 2^-e, m and the power of two out of the sum's fraction; low is less by the worth of m's last bit at most.
	e := sum.Denom().BitLen() // one more than the denominator's: halved
	m := sum.Num().Text(16)
	less := new(big.Int).Sub(sum.Num(), big.NewInt(1)).Text(16)
	mark := "p-" + strconv.Itoa(e)
	even := b + b%2
	ask("0x"+m+mark, even)
	for _, n := range []int{0, 1, 20, 1000, api.MaxDigits - 5 - len(m) - len(mark)} {
		ask("0x"+m+"."+noughts(n)+mark, even)
		ask("0X"+strings.ToUpper(m)+"."+noughts(n)+"1"+mark, b+1)
		ask("0x"+less+"."+strings.Repeat("f", n+1)+mark, b)
	}
}

// askParse, askSingle ask that a text be read as those bits, those of the infinity: ErrOver.
func askParse(t *testing.T) func(string, uint64) {
	return func(text string, b uint64) {
		t.Helper()
		if b == infBits {
			parsedNot(t, text, api.ErrOver)
			parsedNot(t, "-"+text, api.ErrOver)
			return
		}
		parsed(t, text, b)
		if len(text) < api.MaxDigits {
			parsed(t, "-"+text, b|1<<63)
		}
	}
}

func askSingle(t *testing.T) func(string, uint64) {
	return func(text string, b uint64) {
		t.Helper()
		if b == 0x7F800000 {
			singledNot(t, text, api.ErrOver)
			return
		}
		singled(t, text, uint32(b))
	}
}

func TestHalves(t *testing.T) {
	r := rand.New(rand.NewSource(54))
	one := pat(1)
	l := []uint64{0, 1, 2, 3, 1<<51 - 1, 1<<52 - 2, 1<<52 - 1, 1 << 52, 1<<52 + 1, 1<<53 - 1, 1 << 53, one - 2, one - 1, one, one + 1, pat(0x1p53) - 1, pat(0x1p53), pat(0x1p53) + 1, pat(0x1p1023), pat(greatest) - 1}
	for range 10 {
		l = append(l, r.Uint64()%pat(greatest), r.Uint64()%(1<<52), one+r.Uint64()%(1<<58))
	}
	for _, b := range l {
		askHalf(kind64(), b, askParse(t))
		askHexHalf(kind64(), b, askParse(t))
	}
	one = uint64(pat32(1))
	l = []uint64{0, 1, 2, 3, 1<<22 - 1, 1<<23 - 2, 1<<23 - 1, 1 << 23, 1<<23 + 1, one - 2, one - 1, one, one + 1, uint64(pat32(1<<24)) - 1, uint64(pat32(1 << 24)), uint64(pat32(1<<24)) + 1, 0x7F7FFFFE}
	for range 15 {
		l = append(l, uint64(r.Uint32())%0x7F7FFFFF, uint64(r.Uint32())%(1<<23))
	}
	for _, b := range l {
		askHalf(kind32(), b, askSingle(t))
		askHexHalf(kind32(), b, askSingle(t))
	}
}

// The greatest ones, and what lies beyond: the half on the way to 2^1024 and 2^128 is over, just below it is not.
func TestGreatest(t *testing.T) {
	askHalf(kind64(), pat(greatest), func(text string, b uint64) {
		askParse(t)(text, b)
		singledNot(t, text, api.ErrOver)
	})
	askHexHalf(kind64(), pat(greatest), askParse(t))
	askHalf(kind32(), 0x7F7FFFFF, askSingle(t))
	askHexHalf(kind32(), 0x7F7FFFFF, askSingle(t))
	whole := value("0x1p1024")
	for _, text := range []string{whole.FloatString(0), "0x1p1024", "0x2p1023", "0x.1p1028", "0x1" + noughts(256), "1.8e308", "1e309", "2e308", "179769313486231580794e288", "0x1.fffffffffffff8p1023", "0xfffffffffffffcp970", "9" + noughts(308) + "00", strings.Repeat("9", 8192), "0x" + strings.Repeat("f", 8190), "1e400"} {
		parsedNot(t, text, api.ErrOver)
		singledNot(t, text, api.ErrOver)
		if len(text) < api.MaxDigits {
			parsedNot(t, "-"+text, api.ErrOver)
			singledNot(t, "+"+text, api.ErrOver)
		}
	}
	for _, text := range []string{new(big.Rat).SetFloat64(greatest).FloatString(0), "0x1.fffffffffffffp1023", "0x1.fffffffffffff7p1023", "0x1fffffffffffffp971", "0x1.fffffffffffff7" + strings.Repeat("f", 8000) + "p1023", "179769313486231580793e288", "17976931348623157e292"} {
		parsed(t, text, pat(greatest))
		parsed(t, "-"+text, pat(-greatest))
	}
}

// The least ones and what lies below, subnormal ones, and what is rounded to -0.
func TestLeast(t *testing.T) {
	for text, want := range map[string]uint64{"0x1p-1074": 1, "0x.8p-1073": 1, "0x0.0000000000001p-1022": 1, "0x1p-1075": 0, "0x0.8p-1074": 0, "0x0.80001p-1074": 1, "0x1.8p-1074": 2, "0x1.7fffffffffffffffffp-1074": 1, "0x2.8p-1074": 2, "0x1p-1076": 0, "0x1.ffffffffffffffffp-1076": 0, "0x0.fffffffffffffp-1022": 1<<52 - 1, "0x0.fffffffffffff8p-1022": 1 << 52, "0x0.fffffffffffff7fp-1022": 1<<52 - 1, "0x1p-1022": 1 << 52, "5e-324": 1, "3e-324": 1, "2e-324": 0, "7.4e-324": 1, "7.5e-324": 2, "1e-323": 2, "1e-310": 20240225330731, "2.2250738585072009e-308": 1<<52 - 1, "1e-1000": 0} {
		parsed(t, text, want)
		parsed(t, "-"+text, want|1<<63)
		singled(t, text, 0)
		singled(t, "-"+text, 1<<31)
	}
	for text, want := range map[string]uint32{"0x1p-149": 1, "0x1p-150": 0, "0x1.8p-149": 2, "0x1.7fffffffffffffp-149": 1, "0x1.0000000000000000001p-150": 1, "0x0.fffffep-126": 1<<23 - 1, "0x0.ffffffp-126": 1 << 23, "1e-45": 1, "7e-46": 0, "7.1e-46": 1, "1e-40": 71362} {
		singled(t, text, want)
		singled(t, "-"+text, want|1<<31)
	}
}

// Texts of MaxDigits bytes, and of one more.
func TestLong(t *testing.T) {
	long := func(text string, fill string, n int) string {
		return strings.Replace(text, "*", strings.Repeat(fill, n-len(text)+1), 1)
	}
	for _, c := range []struct {
		text, fill string
		want       float64
	}{
		{"*7", "0", 7}, {"-*7", "0", -7}, {"+0.5*", "0", 0.5}, {"1*e-8185", "0", 1}, {"1e*2", "0", 100}, {"1e-*2", "0", 0.01}, {"0x*f", "0", 15}, {"0x1.8*p1", "0", 3}, {"-0x.*1p32728", "0", -1}, {"0x1p-*1", "0", 0.5},
		{"0.*", "9", 1}, {"0x0.*", "f", 1}, {"-*e-99999", "9", minus0}, {"1e-*", "9", 0},
	} {
		parsed(t, long(c.text, c.fill, api.MaxDigits), pat(c.want))
		singled(t, long(c.text, c.fill, api.MaxDigits), pat32(float32(c.want)))
		for _, n := range []int{api.MaxDigits + 1, api.MaxDigits + 2, 10000, 100000} {
			parsedNot(t, long(c.text, c.fill, n), api.ErrLong)
			singledNot(t, long(c.text, c.fill, n), api.ErrLong)
		}
	}
	for _, text := range []string{"*", "-*", "x*", "1*x", "NaN*", "Inf*", "1 *", "*.", "1e*"} {
		for _, fill := range []string{" ", "x", "-", "."} {
			parsedNot(t, long(text, fill, api.MaxDigits), api.ErrForm)
			singledNot(t, long(text, fill, api.MaxDigits), api.ErrForm)
			parsedNot(t, long(text, fill, api.MaxDigits+1), api.ErrLong) // ahead of ErrForm
			singledNot(t, long(text, fill, api.MaxDigits+1), api.ErrLong)
		}
	}
	parsedNot(t, strings.Repeat("9", api.MaxDigits), api.ErrOver)
	parsedNot(t, strings.Repeat("9", api.MaxDigits+1), api.ErrLong) // ahead of ErrOver
	singledNot(t, strings.Repeat("9", api.MaxDigits+1), api.ErrLong)
}

func TestWrongForms(t *testing.T) {
	for _, text := range []string{
		"", "+", "-", ".", "+.", "-.", "..", "1e", "1E", "1e+", "1e-", "e", "e5", ".e5", "+e5", "1e5.", "1e.5", "1e5e5", "1e 5", "1e--5", "1e+-5", "1e0x5", "1ee5",
		"0x", "0X", "-0x", "0x.", "0x.p1", "0xp1", "0x1p", "0x1P+", "0x1p-", "0x1pa", "0x1p0x1", "0x1p1.5", "0x1.2.3", "0x+1", "0x-1", "0xg", "0x1g", "x1", "00x1", "1x1", "0x0x1", "0x 1", "0x1e+0", "0x1e-1",
		" 1", "1 ", "1\n", "\t1", "1\x00", "\x00", "1 2", "- 1", "--1", "++1", "+-1", "-+1", "1-", "1+", "1+1",
		"inf", "INF", "Infinity", "infinity", "Inf ", " Inf", "--Inf", "+-Inf", "Inf1", "1Inf", "In", "nan", "NAN", "Nan", "+NaN", "-NaN", "NaN ", "NaN1", "Na", "0xInf", "0xNaN",
		"1_0", "1,000", "1'000", "1.2.3", "1..2", "1p3", "0b1", "0o7", "1f", "1a", "a", "1.5f", "#", "$1", "1%", "½", "١", "1é", "1\xff", "\xff", "∞", "0x1p٣",
	} {
		parsedNot(t, text, api.ErrForm)
		singledNot(t, text, api.ErrForm)
	}
}

// Every byte that is none of a kind of digits, behind digits of that kind.
func TestEveryByte(t *testing.T) {
	for c := range 256 {
		b := string([]byte{byte(c)})
		for _, text := range []string{b, "1" + b, b + "1", "1" + b + "2", "0x1" + b, "0x" + b, "0x1" + b + "2", "1e" + b, "1e1" + b, "0x1p" + b, "0x1p1" + b, "1e" + b + "1", "0x1p" + b + "1", "0" + b + "1", "." + b} {
			askForm(t, text)
		}
	}
}

// ---- P5.2

func TestPrefix(t *testing.T) {
	for text, want := range map[string]int{
		"": 0, "12+3": 2, "1e+": 1, "0x1p": 3, "0x": 1, "1.5.2": 3, "-1": 0, "+1": 0, ".e1": 0, "1.e1x": 4, "NaN": 0, "Inf": 0, "x": 0, "e1": 0, " 1": 0, "p1": 0,
		".": 0, "..": 0, ".5": 2, "5.": 2, "5..": 2, "..5": 0, ".5.": 2, ".5e": 2, ".5e1": 4, ".5e1.": 4, "5.e": 2, "5.e-": 2, "5.e-7": 5, "5.e-7-": 5, "1e5e5": 3, "1e+5+": 4, "1E-5": 4, "1e--5": 1, "1e+-5": 1, "1e.5": 1, "1e 5": 1, "1ex": 1, "1p5": 1, "1f": 1,
		"0x.": 1, "0x.p": 1, "0x.p1": 1, "0x.8": 4, "0x.8p": 4, "0x.8p+": 4, "0x.8p+1": 7, "0x8.": 4, "0x8.p": 4, "0x8.p1": 6, "0x8.8.8": 5, "0x1p-2+1": 6, "0x1p--2": 3, "0xag": 3, "0xe+1": 3, "0x1e5": 5, "0xx1": 1, "0xp1": 1, "0x-1": 1, "0x+1": 1, "0X1P1": 5, "0X": 1, "0Xg": 1, "00x1": 2, "1x1": 1, "0x1pa": 3, "0x1p1a": 5, "0x0x1": 3,
		"0": 1, "00": 2, "007": 3, "0 ": 1, "0e0": 3, "0.": 2, "0.0.": 3, "0b1": 1, "1_0": 1, "12:3": 2, "12/3": 2, "1\x00": 1, "1é": 1, "٣": 0, "1\xff": 1, "A1": 0, "1A": 1, "1e5:2": 3, "2)": 1,
	} {
		if n := number.Prefix(text); n != want {
			t.Errorf("Prefix %q: %d, want %d", text, n, want)
		}
	}
}

// Of a bare text with something behind it, cut off at every place, and however long.
func TestPrefixAny(t *testing.T) {
	r := rand.New(rand.NewSource(55))
	tails := []string{"", " ", "+", "-1", ".", "..", "e", "e+", "p", "p-", "x", "0x1", "(", "é", "\xff", "\x00", "1.5", "E9", "P9"}
	for range 2000 {
		bare := anyBare(r)
		for i := range len(bare) + 1 {
			if text := bare[:i]; number.Prefix(text) != prefix(text) {
				t.Errorf("Prefix %q: %d, want %d", text, number.Prefix(text), prefix(text))
			}
		}
		text := bare + tails[r.Intn(len(tails))]
		if number.Prefix(text) != prefix(text) {
			t.Errorf("Prefix %q: %d, want %d", text, number.Prefix(text), prefix(text))
		}
	}
	for _, n := range []int{8191, 8192, 8193, 9000, 100000, 1 << 20} {
		nines := strings.Repeat("9", n)
		for _, bare := range []string{nines, "." + nines, nines + ".", "0x" + nines, "0x." + nines, "1e" + nines, "1e-" + nines, "0x1p+" + nines, nines + "e" + nines, noughts(n)} {
			for _, tail := range []string{"", "x", "+", " 1"} {
				if got := number.Prefix(bare + tail); got != len(bare) {
					t.Errorf("Prefix %q: %d, want %d", cutShort(bare+tail), got, len(bare))
				}
			}
		}
	}
}

// ---- P5.3

func TestTold(t *testing.T) {
	for _, c := range []struct {
		x                 float64
		exact, short, hex string
	}{
		{0, "0", "0", "0x0p0"},
		{minus0, "-0", "-0", "-0x0p0"},
		{1, "1", "1", "0x1p0"},
		{-1, "-1", "-1", "-0x1p0"},
		{0.1, "0.1000000000000000055511151231257827021181583404541015625", "0.1", "0x1.999999999999ap-4"},
		{0.5, "0.5", "0.5", "0x1p-1"},
		{0.125, "0.125", "0.125", "0x1p-3"},
		{-1.5, "-1.5", "-1.5", "-0x1.8p0"},
		{2.5, "2.5", "2.5", "0x1.4p1"},
		{10, "10", "10", "0x1.4p3"},
		{100.25, "100.25", "100.25", "0x1.91p6"},
		{1e15, "1000000000000000", "1000000000000000", "0x1.c6bf52634p49"},
		{0x1p53, "9007199254740992", "9007199254740992", "0x1p53"},
		{0x1p64, "18446744073709551616", "18446744073709552000", "0x1p64"},
		{1e20, "100000000000000000000", "100000000000000000000", "0x1.5af1d78b58c4p66"},
		{1e21, "1000000000000000000000", "1e21", "0x1.b1ae4d6e2ef5p69"},
		{math.Nextafter(1e21, 0), "999999999999999868928", "999999999999999900000", "0x1.b1ae4d6e2ef4fp69"},
		{math.Nextafter(1e21, inf), "1000000000000000131072", "1.0000000000000001e21", "0x1.b1ae4d6e2ef51p69"},
		{1e22, "10000000000000000000000", "1e22", "0x1.0f0cf064dd592p73"},
		{1.25e30, "1249999999999999954487036870656", "1.25e30", "0x1.f8def8808b024p99"},
		{5e-7, "0.0000004999999999999999773740559129431293428069693618454039096832275390625", "0.0000005", "0x1.0c6f7a0b5ed8dp-21"},
		{0x1p-24, "0.000000059604644775390625", "5.9604644775390625e-8", "0x1p-24"},
		{-0x1p-20, "-0.00000095367431640625", "-0.00000095367431640625", "-0x1p-20"},
		{math.MaxFloat32, "340282346638528859811704183484516925440", "3.4028234663852886e38", "0x1.fffffep127"},
	} {
		if s := number.Exact(c.x); s != c.exact {
			t.Errorf("Exact %x: %s", c.x, s)
		}
		if s := number.Short(c.x); s != c.short {
			t.Errorf("Short %x: %s, want %s", c.x, s, c.short)
		}
		if s := number.Hex(c.x); s != c.hex {
			t.Errorf("Hex %x: %s", c.x, s)
		}
	}
}

// The NaN, whatever its bits, and the infinities.
func TestToldOfNone(t *testing.T) {
	ask := func(x float64, want string) {
		t.Helper()
		if a, b, c := number.Exact(x), number.Short(x), number.Hex(x); a != want || b != want || c != want {
			t.Errorf("%x: Exact %s, Short %s, Hex %s", pat(x), a, b, c)
		}
		for _, n := range []int{1, 2, 17, 30} {
			if s, e := number.Figures(x, n); s != want || e != api.OK {
				t.Errorf("Figures %x, %d: %s %d", pat(x), n, s, e)
			}
		}
	}
	for _, x := range nans() {
		ask(x, "NaN")
	}
	ask(inf, "Inf")
	ask(-inf, "-Inf")
}

// exact is what Exact should tell: all places that a number may have, without the noughts at the end.
func exact(x float64) string {
	return strings.TrimSuffix(strings.TrimRight(strconv.FormatFloat(x, 'f', 1074, 64), "0"), ".")
}

func TestExact(t *testing.T) {
	for _, x := range numbers(500) {
		if s := number.Exact(x); s != exact(x) {
			t.Fatalf("Exact %x: %s, want %s", x, s, exact(x))
		}
	}
	if s := number.Exact(least); len(s) != 1076 || !strings.HasPrefix(s, "0."+noughts(323)+"494065645841246544") || !strings.HasSuffix(s, "19718265533447265625") {
		t.Errorf("Exact of the least: %s", s)
	}
	if s := number.Exact(-greatest); len(s) != 310 || !strings.HasPrefix(s, "-17976931348623157081452742373170435679807") || !strings.HasSuffix(s, "180919299881250404026184124858368") {
		t.Errorf("Exact of the least finite one: %s", s)
	}
}

// scientific is what Figures should tell: the library's exponents have a sign and two digits at least.
func scientific(x float64, n int) string {
	front, exp, _ := strings.Cut(strconv.FormatFloat(x, 'e', n-1, 64), "e")
	k, _ := strconv.Atoi(exp)
	return front + "e" + strconv.Itoa(k)
}

func TestFigures(t *testing.T) {
	for _, c := range []struct {
		x    float64
		n    int
		want string
	}{
		{0.1, 17, "1.0000000000000001e-1"}, {0.1, 1, "1e-1"}, {0.1, 30, "1.00000000000000005551115123126e-1"}, {1, 1, "1e0"}, {1, 2, "1.0e0"}, {1, 30, "1." + noughts(29) + "e0"}, {-12345, 3, "-1.23e4"}, {1e300, 2, "1.0e300"},
		{0, 1, "0e0"}, {0, 2, "0.0e0"}, {minus0, 1, "-0e0"}, {minus0, 2, "-0.0e0"}, {minus0, 30, "-0." + noughts(29) + "e0"},
		{0.5, 1, "5e-1"}, {1.5, 1, "2e0"}, {2.5, 1, "2e0"}, {3.5, 1, "4e0"}, {-2.5, 1, "-2e0"}, {0.125, 2, "1.2e-1"}, {0.375, 2, "3.8e-1"}, {25, 1, "2e1"}, {35, 1, "4e1"}, {45.5, 2, "4.6e1"}, {44.5, 2, "4.4e1"},
		{9.996, 3, "1.00e1"}, {9.5, 1, "1e1"}, {8.5, 1, "8e0"}, {9.75, 2, "9.8e0"}, {99.5, 2, "1.0e2"}, {0.99609375, 2, "1.0e0"}, {-0.96875, 1, "-1e0"}, {999999, 1, "1e6"}, {999999, 5, "1.0000e6"}, {999999, 6, "9.99999e5"}, {999999, 7, "9.999990e5"}, {math.Nextafter(1, 0), 15, "1.00000000000000e0"}, {math.Nextafter(1, 0), 16, "9.999999999999999e-1"}, {math.Nextafter(1, 0), 30, "9.99999999999999888977697537484e-1"},
		{greatest, 1, "2e308"}, {greatest, 17, "1.7976931348623157e308"}, {greatest, 30, "1.79769313486231570814527423732e308"}, {least, 1, "5e-324"}, {least, 3, "4.94e-324"}, {least, 30, "4.94065645841246544176568792868e-324"}, {-least, 2, "-4.9e-324"},
	} {
		if s, e := number.Figures(c.x, c.n); s != c.want || e != api.OK {
			t.Errorf("Figures %x, %d: %s %d, want %s", c.x, c.n, s, e, c.want)
		}
	}
	for i, x := range numbers(300) {
		for _, n := range []int{1, 2, 3, 1 + i%30, 15, 16, 17, 30} {
			if s, e := number.Figures(x, n); s != scientific(x, n) || e != api.OK {
				t.Fatalf("Figures %x, %d: %s %d, want %s", x, n, s, e, scientific(x, n))
			}
		}
	}
}

// An n below 1 or above MaxPlaces is refused, whatever x is.
func TestWrongFigures(t *testing.T) {
	for _, x := range append(nans(), 0, minus0, 1, -0.1, inf, -inf, greatest, least) {
		for _, n := range []int{0, -1, -17, 31, 32, 8192, 1 << 32, 1<<32 + 1, math.MaxInt, math.MinInt} {
			if s, e := number.Figures(x, n); s != "" || e != api.ErrArg {
				t.Errorf("Figures %x, %d: %q %d", pat(x), n, s, e)
			}
		}
		for _, n := range []int{1, 30} {
			if s, e := number.Figures(x, n); s == "" || e != api.OK {
				t.Errorf("Figures %x, %d: %q %d", pat(x), n, s, e)
			}
		}
	}
}

// short is what Short should tell: the library's rounding, tried from one figure on, is laid out by a fraction's text.
func short(x float64) string {
	for n := 1; ; n++ {
		text := strconv.FormatFloat(x, 'e', n-1, 64)
		if y, _ := strconv.ParseFloat(text, 64); pat(y) != pat(x) {
			continue
		}
		front, exp, _ := strings.Cut(text, "e")
		k, _ := strconv.Atoi(exp)
		if k < -7 || k > 20 {
			return front + "e" + strconv.Itoa(k)
		}
		v, _ := new(big.Rat).SetString(text)
		plain := strings.TrimSuffix(strings.TrimRight(v.FloatString(40), "0"), ".")
		if v.Sign() == 0 && parts.Negative(x) {
			plain = "-" + plain
		}
		return plain
	}
}

func TestShort(t *testing.T) {
	for _, x := range append(numbers(1500), powers()...) {
		if s := number.Short(x); s != short(x) {
			t.Fatalf("Short %x: %s, want %s", x, s, short(x))
		}
	}
	for i := range 1000 {
		if x := math.Float64frombits(uint64(i)); number.Short(x) != short(x) {
			t.Fatalf("Short %x: %s, want %s", x, number.Short(x), short(x))
		}
	}
}

// About 10^-7 and 10^21: with an exponent or without one goes by the short decimal's first figure.
func TestShortEdges(t *testing.T) {
	for want, x := range map[string]float64{
		"0.0000001": 1e-7, "9.999999999999998e-8": math.Nextafter(1e-7, 0), "0.00000010000000000000001": math.Nextafter(1e-7, 1), "1e-8": 1e-8, "0.0000009": 9e-7, "9e-8": 9e-8, "9.99e-8": 9.99e-8, "0.000000999": 9.99e-7, "0.000001": 1e-6, "0.00000012": 1.2e-7, "1.2e-8": 1.2e-8, "-0.001": -0.001,
		"1e21": 1e21, "999999999999999900000": math.Nextafter(1e21, 0), "1.0000000000000001e21": math.Nextafter(1e21, inf), "100000000000000000000": 1e20, "123456789012345680000": 123456789012345678901, "1.2345678901234568e21": 1234567890123456789012, "-1e21": -1e21, "-100000000000000000000": -1e20, "999000000000000000000": 9.99e20, "9.99e21": 9.99e21,
		"5e-324": least, "-5e-324": -least, "1e-323": 2 * least, "1.5e-323": 3 * least, "2.225073858507201e-308": 0x0.fffffffffffffp-1022, "2.2250738585072014e-308": 0x1p-1022, "1.7976931348623157e308": greatest,
		"123.456": 123.456, "0.30000000000000004": 0.1 + float64(0.2), "1e23": 1e23, "9.999999999999997e22": math.Nextafter(1e23, 0),
		// Some powers of two: of fewer figures one could find others that are read as them, but the value is not rounded to these.
		"5.6843418860808015e-14": 0x1p-44, "5.9604644775390625e-8": 0x1p-24, "6.1897001964269014e26": 0x1p89,
		// Others: 16 figures are read as the neighbour below, but 14 and 13 as the number.
		"7.1362384635298e44": 0x1p149, "6.090821257125e287": 0x1p956,
	} {
		if s := number.Short(x); s != want {
			t.Errorf("Short %x: %s, want %s", x, s, want)
		}
	}
}

// hex is what Hex should tell, out of the bits.
func hex(x float64) string {
	b := pat(x)
	lead, exp := 1, int(b>>52&0x7FF)-1023
	switch {
	case b<<1 == 0:
		lead, exp = 0, 0
	case exp == -1023:
		lead, exp = 0, -1022
	}
	text := fmt.Sprintf("0x%d.%013x", lead, b&(1<<52-1))
	text = strings.TrimSuffix(strings.TrimRight(text, "0"), ".")
	if lead == 0 && b<<12 == 0 {
		text = "0x0"
	}
	if b>>63 == 1 {
		text = "-" + text
	}
	return text + "p" + strconv.Itoa(exp)
}

func TestHex(t *testing.T) {
	for want, x := range map[string]float64{"0x0.0000000000001p-1022": least, "-0x0.0000000000001p-1022": -least, "0x0.8p-1022": 0x1p-1023, "0x0.4p-1022": 0x1p-1024, "0x0.fffffffffffffp-1022": 0x0.fffffffffffffp-1022, "0x1p-1022": 0x1p-1022, "0x1.0000000000001p-1022": 0x1.0000000000001p-1022, "0x1.fffffffffffffp1023": greatest, "-0x1p1023": -0x1p1023, "0x0p0": 0, "-0x0p0": minus0, "0x1.0000000000001p0": 1 + 0x1p-52, "0x1.8p10": 0x1.8p10, "0x1.000abcp-100": 0x1.000abcp-100} {
		if s := number.Hex(x); s != want {
			t.Errorf("Hex %x: %s, want %s", x, s, want)
		}
	}
	for _, x := range append(numbers(3000), powers()...) {
		s := number.Hex(x)
		if s != hex(x) {
			t.Fatalf("Hex %x: %s, want %s", x, s, hex(x))
		}
		if v := value(strings.TrimPrefix(s, "-")); v.Cmp(new(big.Rat).SetFloat64(math.Abs(x))) != 0 {
			t.Fatalf("Hex %x: %s is %s", x, s, v)
		}
	}
}

// ---- P5.4

// Exact, Short, Hex and 17 figures are read as the number; 9 as the single, if one has its value.
func TestFollowsReadBack(t *testing.T) {
	l := append(numbers(700), powers()...)
	l = append(append(l, inf, -inf), nans()...)
	for _, x := range l {
		want := pat(parts.One(x))
		f17, _ := number.Figures(x, 17)
		for _, text := range []string{number.Exact(x), number.Short(x), number.Hex(x), f17} {
			parsed(t, text, want)
		}
		if !parts.Single(x) {
			continue
		}
		y := pat32(float32(x))
		if x != x {
			y = 0x7FC00000
		}
		f9, _ := number.Figures(x, 9)
		for _, text := range []string{f9, number.Exact(x), number.Hex(x), f17} {
			singled(t, text, y)
		}
	}
}

// Fewer figures than Short's are not read as the number.
func TestFollowsFewer(t *testing.T) {
	for _, x := range append(numbers(150), powers()...) {
		front, _, _ := strings.Cut(strings.TrimPrefix(number.Short(x), "-"), "e")
		figures := len(strings.Trim(strings.Replace(front, ".", "", 1), "0"))
		for n := 1; n < figures; n++ {
			text, _ := number.Figures(x, n)
			if y, _ := number.Parse(text); pat(y) == pat(x) {
				t.Fatalf("%x: Short %s, but %s is read as it", x, number.Short(x), text)
			}
		}
		if figures > 0 && figures <= 17 {
			text, _ := number.Figures(x, figures)
			parsed(t, text, pat(x))
		}
	}
}

// Fifteen figures that are read as a normal number stand again; six of a single.
func TestFollowsStandAgain(t *testing.T) {
	r := rand.New(rand.NewSource(56))
	again := func(text, told string) {
		a, _ := dec.Parse(text)
		b, e := dec.Parse(told)
		if a != b || e != api.OK {
			t.Fatalf("%s: %s", text, told)
		}
	}
	seen, seen32 := 0, 0
	for i := range 20000 {
		exp := r.Intn(650) - 330
		if i%2 == 0 {
			exp = r.Intn(100) - 55
		}
		text := strconv.FormatInt(1+r.Int63n(int64(math.Pow10(1+r.Intn(15)))), 10) + "e" + strconv.Itoa(exp)
		if x, e := number.Parse(text); e == api.OK && parts.Class(x) == parts.Normal {
			told, _ := number.Figures(x, 15)
			again(text, told)
			seen++
		}
		text = "-" + strconv.Itoa(1+r.Intn(999999)) + "e" + strconv.Itoa(exp)
		if y, e := number.Single(text); e == api.OK && y <= -0x1p-126 {
			told, _ := number.Figures(float64(y), 6)
			again(text, told)
			seen32++
		}
	}
	if seen < 5000 || seen32 < 5000 {
		t.Errorf("just %d and %d were looked at", seen, seen32)
	}
}

// A text of the greater value is never read as the lesser number.
func TestFollowsOrder(t *testing.T) {
	r := rand.New(rand.NewSource(57))
	type row struct {
		text string
		v    *big.Rat
	}
	var l []row
	for range 3000 {
		text := anyBare(r)
		l = append(l, row{text, value(text)})
		// Many close together, of both bases.
		for _, text := range []string{"1." + noughts(r.Intn(20)) + strconv.Itoa(r.Intn(1000)), "0x1." + noughts(r.Intn(15)) + strconv.FormatInt(r.Int63n(4096), 16), "0x0." + noughts(r.Intn(15)) + strconv.Itoa(r.Intn(100)) + "p-1022", strconv.Itoa(r.Intn(100)) + "e-324"} {
			l = append(l, row{text, value(text)})
		}
	}
	slices.SortFunc(l, func(a, b row) int { return a.v.Cmp(b.v) })
	was, was32 := 0.0, float32(0)
	for i, c := range l {
		x, e := number.Parse(c.text)
		y, e32 := number.Single(c.text)
		if e == api.ErrOver {
			x = inf
		}
		if e32 == api.ErrOver {
			y = float32(inf)
		}
		if x < was || y < was32 {
			t.Fatalf("%s is read as %x, %x; the lesser %s was as %x, %x", c.text, x, y, l[i-1].text, was, was32)
		}
		was, was32 = x, y
	}
}

// same asks that two texts be read alike, as numbers and as singles.
func same(t *testing.T, a, b string) {
	t.Helper()
	x, e := number.Parse(a)
	y, no := number.Parse(b)
	p, e32 := number.Single(a)
	q, no32 := number.Single(b)
	if pat(x) != pat(y) || e != no || pat32(p) != pat32(q) || e32 != no32 {
		t.Errorf("%q: %x %d, %x %d; %q: %x %d, %x %d", cutShort(a), x, e, p, e32, cutShort(b), y, no, q, no32)
	}
}

// A nought more ahead of the digits, or behind those behind the point, changes nothing.
func TestFollowsNoughts(t *testing.T) {
	r := rand.New(rand.NewSource(58))
	for range 3000 {
		text := anyBare(r)
		head, rest := "", text
		marks := "eE"
		if strings.HasPrefix(text, "0x") || strings.HasPrefix(text, "0X") {
			head, rest, marks = text[:2], text[2:], "pP"
		}
		front, exp := rest, ""
		if i := strings.IndexAny(rest, marks); i >= 0 {
			front, exp = rest[:i], rest[i:]
		}
		same(t, text, head+"0"+rest)
		same(t, "-"+text, "-"+head+noughts(1+r.Intn(30))+rest)
		if strings.Contains(front, ".") {
			same(t, text, head+front+"0"+exp)
			same(t, "+"+text, head+front+noughts(1+r.Intn(30))+exp)
		}
	}
	long := "1." + strings.Repeat("7", 8189)
	same(t, long, "0"+long)
	same(t, long, long+"0")
}

// A point that is moved by one place, with the exponent one more or less, changes nothing.
func TestFollowsPoint(t *testing.T) {
	r := rand.New(rand.NewSource(59))
	for range 3000 {
		digits := strconv.FormatInt(r.Int63(), 10) + strconv.FormatInt(r.Int63(), 10)
		if r.Intn(3) == 0 {
			digits = digits[:1+r.Intn(5)]
		}
		exp := r.Intn(700) - 360
		if r.Intn(10) == 0 {
			exp = r.Intn(100000) - 50000
		}
		moved := func(i int) string { return digits[:i] + "." + digits[i:] + "e" + strconv.Itoa(exp-i) }
		for i := range len(digits) {
			same(t, moved(i), moved(i+1))
		}
		same(t, digits+"e"+strconv.Itoa(exp-len(digits)), moved(len(digits)))
	}
	long := strings.Repeat("7", 8180)
	same(t, long[:300]+"."+long[300:]+"e-80", long[:301]+"."+long[301:]+"e-81")
	same(t, "."+long+"e-5", long[:1]+"."+long[1:]+"e-6")
}

// Prefix of a bare text is its length, and what it finds is read, or is ErrOver, or ErrLong.
func TestFollowsPrefix(t *testing.T) {
	r := rand.New(rand.NewSource(60))
	for range 5000 {
		text := anyBare(r)
		if n := number.Prefix(text); n != len(text) {
			t.Fatalf("Prefix %q: %d", text, n)
		}
		spoilt := text + anyBare(r)
		found := spoilt[:number.Prefix(spoilt)]
		if _, e := number.Parse(found); e != api.OK && e != api.ErrOver {
			t.Fatalf("Prefix finds %q in %q: error %d", found, spoilt, e)
		}
	}
	for _, text := range []string{strings.Repeat("9", 9000), "0x" + strings.Repeat("9", 8190), "0x" + strings.Repeat("9", 8191), "1e" + strings.Repeat("9", 8190), noughts(8193)} {
		found := text[:number.Prefix(text)]
		_, e := number.Parse(found)
		if found != text || len(text) > api.MaxDigits && e != api.ErrLong || len(text) <= api.MaxDigits && e != api.ErrOver {
			t.Errorf("%s: found %d bytes, error %d", cutShort(text), len(found), e)
		}
	}
}
