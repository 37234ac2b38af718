package packed_test

import (
	"encoding/binary"
	"math"
	"math/rand"
	"strings"
	"testing"

	"quadrille/api"
	"quadrille/packed"
	"quadrille/parts"
	"quadrille/single"
)

// P24.3, P24.4 and P24.6: lists of numbers.

var modes = []int{api.Even, api.Away, api.Up, api.Down, api.Zero, api.Odd}

// narrowed is a number rounded to a single, by other means: of the singles beside it that which the mode says.
func narrowed(x float64, mode int) float32 {
	y := float32(x)
	if x != x {
		return math.Float32frombits(theSingleNaN)
	}
	if float64(y) == x || math.IsInf(x, 0) {
		return y
	}
	below, above := y, y
	if float64(y) > x {
		below = math.Nextafter32(y, float32(math.Inf(-1)))
	} else {
		above = math.Nextafter32(y, float32(math.Inf(1)))
	}
	// What is rounded to a nought keeps its sign.
	if above == 0 && x < 0 {
		above = float32(minus)
	}
	if below == 0 && x > 0 {
		below = 0
	}
	nearer, farther := below, above
	if x < 0 {
		nearer, farther = above, below
	}
	switch mode {
	case api.Even:
		return y
	case api.Away:
		if math.Abs(x) >= 0x1p128-0x1p103 || math.Abs(x-float64(nearer)) >= math.Abs(float64(farther)-x) && !math.IsInf(float64(farther), 0) {
			return farther
		}
		return nearer
	case api.Up:
		return above
	case api.Down:
		return below
	case api.Odd:
		if math.Float32bits(nearer)&1 == 0 {
			return farther
		}
	}
	return nearer
}

// singlesOf are the bytes of numbers narrowed, and how many were not just that.
func singlesOf(l []float64, mode int) (string, int) {
	var b []byte
	count := 0
	for _, x := range l {
		y := narrowed(x, mode)
		b = binary.LittleEndian.AppendUint32(b, math.Float32bits(y))
		if x == x && float64(y) != x {
			count++
		}
	}
	return string(b), count
}

func singles(t testing.TB, l []float64, mode int, want string, count int) {
	t.Helper()
	s, n, err := packed.Singles(l, mode)
	if s != want || n != count || err != api.OK {
		t.Errorf("P24.3: Singles(%s; %d): %x, %d, error %d, not %x, %d", short(toldNumbers(l)), mode, short(s), n, err, short(want), count)
	}
}

func noSingles(t testing.TB, l []float64, mode int, want api.Errno) {
	t.Helper()
	if s, n, err := packed.Singles(l, mode); s != "" || n != 0 || err != want {
		t.Errorf("P24.3: Singles of %d numbers; %d: %d bytes, %d, error %d, not %d", len(l), mode, len(s), n, err, want)
	}
}

func fromSingles(t testing.TB, b string, want ...float64) {
	t.Helper()
	if l, err := packed.FromSingles(b); toldNumbers(l) != toldNumbers(want) || err != api.OK {
		t.Errorf("P24.3: FromSingles(%x): %s, error %d, not %s", short(b), short(toldNumbers(l)), err, short(toldNumbers(want)))
	}
}

func doubles(t testing.TB, l []float64, want string) {
	t.Helper()
	if s, err := packed.Doubles(l); s != want || err != api.OK {
		t.Errorf("P24.4: Doubles(%s): %x, error %d, not %x", short(toldNumbers(l)), short(s), err, short(want))
	}
}

func fromDoubles(t testing.TB, b string, want ...float64) {
	t.Helper()
	if l, err := packed.FromDoubles(b); toldNumbers(l) != toldNumbers(want) || err != api.OK {
		t.Errorf("P24.4: FromDoubles(%x): %s, error %d, not %s", short(b), short(toldNumbers(l)), err, short(toldNumbers(want)))
	}
}

func TestNumbersExamples(t *testing.T) {
	singles(t, []float64{1, .1}, api.Even, bytesOf("0000803F CDCCCC3D"), 1)
	singles(t, []float64{1e39}, api.Even, bytesOf("0000807F"), 1)
	noSingles(t, []float64{1}, 7, api.ErrArg)
	if l, err := packed.FromSingles("abc"); len(l) != 0 || err != api.ErrForm {
		t.Errorf("P24.3: FromSingles of 3 bytes: %v, error %d", l, err)
	}
	fromSingles(t, bytesOf("0000C0FF"), parts.Nan())
	doubles(t, []float64{minus, math.NaN()}, bytesOf("0000000000000080 000000000000F87F"))
	fromDoubles(t, strings.Repeat("\xff", 8), parts.Nan())
}

func TestNumbersOfNone(t *testing.T) {
	for _, mode := range modes {
		singles(t, nil, mode, "", 0)
		singles(t, []float64{}, mode, "", 0)
	}
	fromSingles(t, "")
	doubles(t, nil, "")
	doubles(t, []float64{}, "")
	fromDoubles(t, "")
}

func TestSingles(t *testing.T) {
	for _, mode := range modes {
		for _, x := range append(numbers(), nans()...) {
			s, count := singlesOf([]float64{x}, mode)
			singles(t, []float64{x}, mode, s, count)
			singles(t, []float64{x, 1, x}, mode, s+bytesOf("0000803F")+s, 2*count)
		}
	}
	// By hand: half of the least single, beyond the greatest one, the noughts, the infinities.
	for i, digits := range []string{"00000000", "01000000", "01000000", "00000000", "00000000", "01000000"} {
		singles(t, []float64{0x1p-150}, modes[i], bytesOf(digits), 1)
	}
	for i, digits := range []string{"00000080", "01000080", "00000080", "01000080", "00000080", "01000080"} {
		singles(t, []float64{-0x1p-150}, modes[i], bytesOf(digits), 1)
	}
	for i, digits := range []string{"0000807F", "0000807F", "0000807F", "FFFF7F7F", "FFFF7F7F", "FFFF7F7F"} {
		singles(t, []float64{0x1p128}, modes[i], bytesOf(digits), 1)
	}
	for i, digits := range []string{"000080FF", "000080FF", "FFFF7FFF", "000080FF", "FFFF7FFF", "FFFF7FFF"} {
		singles(t, []float64{-0x1p128}, modes[i], bytesOf(digits), 1)
	}
	for i, digits := range []string{"0000803F", "0100803F", "0100803F", "0000803F", "0000803F", "0100803F"} {
		singles(t, []float64{0x1.000001p0}, modes[i], bytesOf(digits), 1)
	}
	for _, mode := range modes {
		singles(t, []float64{0, minus, math.Inf(1), math.Inf(-1)}, mode, bytesOf("00000000 00000080 0000807F 000080FF"), 0)
		for _, x := range nans() {
			singles(t, []float64{x}, mode, bytesOf("0000C07F"), 0)
		}
	}
}

func TestSinglesErrors(t *testing.T) {
	most, more := make([]float64, api.MaxList), make([]float64, api.MaxList+1)
	for i := range most {
		most[i] = .1
	}
	for _, mode := range []int{0, 7, -1, 8, 1 << 32, 1<<32 + 1, math.MinInt, math.MaxInt, math.MinInt + 1, 255, 257} {
		noSingles(t, nil, mode, api.ErrArg)
		noSingles(t, []float64{1, .1}, mode, api.ErrArg)
		noSingles(t, most, mode, api.ErrArg)
		noSingles(t, more, mode, api.ErrArg) // ahead of its length
	}
	for _, mode := range modes {
		s, count := singlesOf(most, mode)
		singles(t, most, mode, s, api.MaxList)
		if count != api.MaxList {
			t.Errorf("the model counts %d", count)
		}
		noSingles(t, more, mode, api.ErrLong)
		noSingles(t, append(more, more...), mode, api.ErrLong)
	}
}

func TestFromSingles(t *testing.T) {
	for _, bits := range []uint32{0, 0x80000000, 1, 0x80000001, 0x007FFFFF, 0x807FFFFF, 0x00800000, 0x00800001, 0x3F800000, 0xBF800000, 0x3DCCCCCD, 0x7F7FFFFF, 0xFF7FFFFF, 0x7F800000, 0xFF800000, 0x01020304, 0x12345678} {
		fromSingles(t, string(binary.LittleEndian.AppendUint32(nil, bits)), float64(math.Float32frombits(bits)))
	}
	for _, bits := range []uint32{0x7FC00000, 0xFFC00000, 0x7F800001, 0xFF800001, 0x7FFFFFFF, 0xFFFFFFFF, 0x7FA00000, 0x7FC00001, 0xFFBFFFFF} {
		fromSingles(t, string(binary.LittleEndian.AppendUint32(nil, bits)), math.Float64frombits(theNaN))
	}
	fromSingles(t, bytesOf("01000000 0000803F 000000C0"), 0x1p-149, 1, -2)
	errors(t, "P24.3", 4, packed.FromSingles)
}

// errors asks what a list's bytes are refused for, so many a number.
func errors(t *testing.T, promise string, size int, read func(string) ([]float64, api.Errno)) {
	t.Helper()
	most := size * api.MaxList
	for _, n := range []int{1, size - 1, size + 1, 2*size - 1, 99*size + 1, most - 1, most + 1, most + size - 1, most + size + 1, 10*most + 1} {
		if l, err := read(strings.Repeat("\x01", n)); len(l) != 0 || err != api.ErrForm {
			t.Errorf("%s: of %d bytes: %d numbers, error %d", promise, n, len(l), err)
		}
	}
	for _, n := range []int{most + size, most + 2*size, 10 * most} {
		if l, err := read(strings.Repeat("\x01", n)); len(l) != 0 || err != api.ErrLong {
			t.Errorf("%s: of %d bytes: %d numbers, error %d", promise, n, len(l), err)
		}
	}
	if l, err := read(strings.Repeat("\x00", most)); len(l) != api.MaxList || err != api.OK {
		t.Errorf("%s: of MaxList numbers: %d, error %d", promise, len(l), err)
	}
}

func TestDoubles(t *testing.T) {
	for _, x := range numbers() {
		b := string(binary.LittleEndian.AppendUint64(nil, math.Float64bits(x)))
		doubles(t, []float64{x}, b)
		doubles(t, []float64{x, 1, x}, b+bytesOf("000000000000F03F")+b)
		fromDoubles(t, b+b, x, x)
	}
	for _, x := range nans() {
		doubles(t, []float64{x}, bytesOf("000000000000F87F"))
		fromDoubles(t, string(binary.LittleEndian.AppendUint64(nil, math.Float64bits(x))), math.Float64frombits(theNaN))
	}
	fromDoubles(t, bytesOf("0807060504030201"), math.Float64frombits(0x0102030405060708))
	errors(t, "P24.4", 8, packed.FromDoubles)
	most, more := make([]float64, api.MaxList), make([]float64, api.MaxList+1)
	doubles(t, most, strings.Repeat("\x00", 8*api.MaxList))
	for _, l := range [][]float64{more, append(more, more...)} {
		if s, err := packed.Doubles(l); s != "" || err != api.ErrLong {
			t.Errorf("P24.4: Doubles of %d numbers: %d bytes, error %d", len(l), len(s), err)
		}
	}
}

func (r chance) numbers(most int) []float64 {
	l := make([]float64, r.Intn(most+1))
	for i := range l {
		l[i] = r.number()
	}
	return l
}

// P24.6, over lists drawn by chance.
func TestNumbersFollow(t *testing.T) {
	r := chance{rand.New(rand.NewSource(6))}
	for range 20000 {
		l, mode := r.numbers(12), draw(r, modes)
		clean, narrow := make([]float64, len(l)), make([]float64, len(l))
		var just []float64
		for i, x := range l {
			clean[i] = parts.One(x)
			y, _, _ := single.Narrow(x, mode)
			narrow[i] = single.Widen(y)
			if parts.Single(x) {
				just = append(just, parts.One(x))
			}
		}
		s, err := packed.Doubles(l)
		if err != api.OK || len(s) != 8*len(l) {
			t.Fatalf("P24.4: Doubles: %d bytes, error %d", len(s), err)
		}
		fromDoubles(t, s, clean...)
		want, count := singlesOf(l, mode)
		singles(t, l, mode, want, count)
		fromSingles(t, want, narrow...)
		s, n, err := packed.Singles(just, mode)
		if n != 0 || err != api.OK {
			t.Fatalf("P24.6: of numbers that are singles %d were inexact, error %d", n, err)
		}
		fromSingles(t, s, just...)
		cutFollows(t, l, mode, r.Intn(len(l)+1))
		if t.Failed() {
			return
		}
	}
}

// cutFollows cuts a list, and holds the pieces one behind the other against the whole.
func cutFollows(t *testing.T, l []float64, mode, at int) {
	t.Helper()
	all, n, _ := packed.Singles(l, mode)
	first, a, _ := packed.Singles(l[:at], mode)
	second, b, _ := packed.Singles(l[at:], mode)
	if first+second != all || a+b != n {
		t.Fatalf("P24.6: Singles cut at %d: %x %x, not %x", at, first, second, all)
	}
	all, _ = packed.Doubles(l)
	first, _ = packed.Doubles(l[:at])
	second, _ = packed.Doubles(l[at:])
	if first+second != all {
		t.Fatalf("P24.6: Doubles cut at %d: %x %x, not %x", at, first, second, all)
	}
}

// Any bytes are numbers; these are those bytes again, but for the NaN's.
func TestNumbersThereAndBack(t *testing.T) {
	r := chance{rand.New(rand.NewSource(7))}
	for range 20000 {
		b := make([]byte, 8*r.Intn(10))
		r.Read(b)
		l, err := packed.FromDoubles(string(b))
		s, no := packed.Doubles(l)
		if err != api.OK || no != api.OK || len(s) != len(b) {
			t.Fatalf("P24.6: errors %d, %d", err, no)
		}
		for i := range l {
			was := math.Float64frombits(binary.LittleEndian.Uint64(b[8*i:]))
			if same := s[8*i:8*i+8] == string(b[8*i:8*i+8]); same == (was != was) && math.Float64bits(was) != theNaN {
				t.Fatalf("P24.6: the double %x: %x", b[8*i:8*i+8], s[8*i:8*i+8])
			}
		}
		l, err = packed.FromSingles(string(b))
		s, count, no := packed.Singles(l, draw(r, modes))
		if err != api.OK || no != api.OK || len(s) != len(b) || count != 0 {
			t.Fatalf("P24.6: errors %d, %d, %d inexact", err, no, count)
		}
		for i := range l {
			was := math.Float32frombits(binary.LittleEndian.Uint32(b[4*i:]))
			if same := s[4*i:4*i+4] == string(b[4*i:4*i+4]); same == (was != was) && math.Float32bits(was) != theSingleNaN {
				t.Fatalf("P24.6: the single %x: %x", b[4*i:4*i+4], s[4*i:4*i+4])
			}
		}
	}
}
