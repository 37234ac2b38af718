package calls_test

import (
	"fmt"
	"math"
	"slices"
	"strings"
	"testing"

	"quadrille/api"
	"quadrille/calls"
	"quadrille/value"
)

// The bits of the NaN that is answered.
const nanBits = 0x7FF8000000000000

var (
	nan   = math.Float64frombits(nanBits)
	other = math.Float64frombits(0xFFF0000000000001)
	minus = math.Copysign(0, -1)
	inf   = math.Inf(1)
	most  = math.MaxFloat64
	// tiny is the least number above 0, small the greatest subnormal one.
	tiny  = math.Float64frombits(1)
	small = math.Float64frombits(1<<52 - 1)
	blank api.Value
)

// nans are float64s that are no numbers of mathematics, of either sign, quiet ones and others.
func nans() []float64 {
	var l []float64
	for _, bits := range []uint64{nanBits, 0xFFF8000000000000, 0x7FF0000000000001, 0xFFF0000000000001, 0x7FFFFFFFFFFFFFFF, 0xFFFFFFFFFFFFFFFF, 0x7FF8000000000001} {
		l = append(l, math.Float64frombits(bits))
	}
	return l
}

// fl is a fault, ar what an area shows, where arguments are written out.
type fl int

type ar []any

// The faults, by what they say.
const (
	div    fl = 1
	noNum  fl = 2
	noVal  fl = 3
	noRef  fl = 4
	absent fl = 5
)

// val is a value: nil a blank, a fl a fault, else by its own type.
func val(x any) api.Value {
	switch x := x.(type) {
	case nil:
		return blank
	case int:
		return api.Value{Kind: 1, X: float64(x)}
	case float64:
		return api.Value{Kind: 1, X: x}
	case string:
		return api.Value{Kind: 2, S: x}
	case bool:
		return api.Value{Kind: 3, B: x}
	case fl:
		return api.Value{Kind: 4, F: int(x)}
	case api.Value:
		return x
	}
	panic(fmt.Sprintf("no value: %T", x))
}

// arg is an argument: a calls.Arg as it is, an area of one cell more than it shows, or a value.
func arg(x any) calls.Arg {
	switch x := x.(type) {
	case calls.Arg:
		return x
	case ar:
		a := calls.Arg{Area: true, N: len(x) + 1}
		for _, v := range x {
			a.L = append(a.L, val(v))
		}
		return a
	}
	return calls.Arg{V: val(x)}
}

func args(l ...any) []calls.Arg {
	var out []calls.Arg
	for _, x := range l {
		out = append(out, arg(x))
	}
	return out
}

// told is a value with all its fields, X by its bits.
func told(v api.Value) string {
	s := fmt.Sprintf("%q", v.S)
	if len(s) > 60 {
		s = fmt.Sprintf("%s.. of %d", s[:60], len(v.S))
	}
	return fmt.Sprintf("{%d %x(%v) %s %v %d}", v.Kind, math.Float64bits(v.X), v.X, s, v.B, v.F)
}

func toldArgs(l []calls.Arg) string {
	var b strings.Builder
	for _, a := range l {
		if !a.Area {
			b.WriteString(told(a.V) + " ")
			continue
		}
		fmt.Fprintf(&b, "area of %d:[", a.N)
		for _, v := range a.L {
			b.WriteString(told(v))
		}
		b.WriteString("] ")
	}
	return b.String()
}

// alike tells whether all fields of two values are the same, bit by bit.
func alike(a, b api.Value) bool {
	return a.Kind == b.Kind && math.Float64bits(a.X) == math.Float64bits(b.X) && a.S == b.S && a.B == b.B && a.F == b.F
}

// check asks what a call comes to, bit by bit, and whether that may be.
func check(t *testing.T, promise, name string, l []calls.Arg, want api.Value) {
	t.Helper()
	v, err := calls.Call(name, l...)
	if err != api.OK || !alike(v, want) {
		t.Errorf("%s: %s of %s is %s, %v, not %s", promise, name, toldArgs(l), told(v), err, told(want))
	}
	if !value.Valid(v) {
		t.Errorf("P15.3: %s of %s is %s, which may not be", name, toldArgs(l), told(v))
	}
}

// row is a call, its arguments and what it comes to.
type row struct {
	name string
	l    []any
	want any
}

// of are a row's arguments.
func of(l ...any) []any { return l }

func checkRows(t *testing.T, promise string, rows []row) {
	t.Helper()
	for _, r := range rows {
		check(t, promise, r.name, args(r.l...), val(r.want))
	}
}

// checkError asks for an error, and for nothing beside it.
func checkError(t *testing.T, name string, l []calls.Arg, want api.Errno) {
	t.Helper()
	v, err := calls.Call(name, l...)
	if err != want || !alike(v, blank) {
		t.Errorf("P15.2: %s of %d, %s: %s, %v, not %v", name, len(l), toldArgs(l), told(v), err, want)
	}
}

// takes is chapter 12's list of the functions by how many arguments they take.
func takes() map[string][2]int {
	m := map[string][2]int{}
	for _, g := range []struct {
		least, most int
		names       string
	}{
		{0, 0, "NA"},
		{1, 1, "ABS INT ISBLANK ISERROR ISNUMBER ISTEXT LEN NOT SIGN SINGLE SQRT TRUNC VALUE"},
		{2, 2, "EXACT IFERROR LARGE LEFT MOD PERCENTILE POWER REPT RIGHT ROUND ROUNDDOWN ROUNDEVEN ROUNDUP SMALL SUMPRODUCT TEXT"},
		{2, 3, "IF RANK"},
		{3, 3, "COUNTIF FUSED MID"},
		{1, 256, "AND AVERAGE COUNT COUNTA JOIN MAX MEDIAN MIN MODE OR STDEV STDEVP SUM SUMSQ VAR VARP"},
		{2, 256, "CHOOSE"},
	} {
		for _, name := range strings.Fields(g.names) {
			m[name] = [2]int{g.least, g.most}
		}
	}
	return m
}

// names are all of these, byte by byte.
func names() []string {
	var l []string
	for name := range takes() {
		l = append(l, name)
	}
	slices.Sort(l)
	return l
}

// mayBeArea is P15.1's list of the arguments that may be areas.
func mayBeArea(name string, i int) bool {
	word := " " + name + " "
	if i < 0 || i >= takes()[name][1] {
		return false
	}
	switch {
	case strings.Contains(" AND AVERAGE COUNT COUNTA JOIN MAX MEDIAN MIN MODE OR STDEV STDEVP SUM SUMSQ VAR VARP SUMPRODUCT ", word):
		return true
	case strings.Contains(" COUNTIF LARGE PERCENTILE SMALL ", word):
		return i == 0
	}
	return name == "RANK" && i == 1
}

// noNames are texts that are near to names and are none.
func noNames() []string {
	l := []string{"", " ", "TRUE", "FALSE", "A1", "N", "S", "SU", "UM", "SUMIF", "ROUNDU", "VA", "ISERR", "\xff", "SUM\x00", "\x00SUM", "ſUM", "ABSS", "ZZZ", "A", "~", strings.Repeat("SUM", 1000)}
	for name := range takes() {
		l = append(l, strings.ToLower(name), name[:1]+strings.ToLower(name[1:]), strings.ToLower(name[:1])+name[1:], name+" ", " "+name, name+"(", name+"X", name+".", name+"\n", name+name)
	}
	return l
}

// places are numbers of arguments, from far below 0 to far beyond the last one.
func places() []int {
	l := []int{math.MinInt, math.MinInt + 1, -1 << 32, -257, -256, -2, -1}
	for i := range 260 {
		l = append(l, i)
	}
	return append(l, 511, 512, 1<<16, 1<<32, 1<<32+1, math.MaxInt-1, math.MaxInt)
}

// P15.1: names.

func TestNames(t *testing.T) {
	want := names()
	got := calls.Names()
	if len(want) != 52 || !slices.Equal(got, want) {
		t.Fatalf("P15.1: Names: %q, not %q", got, want)
	}
	full := got[:cap(got)]
	for i := range full {
		full[i] = "spoiled"
	}
	if again := calls.Names(); !slices.Equal(again, want) {
		t.Errorf("P15.1, R3: Names written over: %q", again)
	}
	for _, name := range want {
		if least, most, ok := calls.Takes(name); !ok || least != takes()[name][0] || most != takes()[name][1] {
			t.Errorf("P15.1: behind it Takes(%s): %d %d %v", name, least, most, ok)
		}
	}
	check(t, "P15.2", "SUM", args(1, 2), val(3))
}

func TestTakes(t *testing.T) {
	for name, want := range takes() {
		if least, most, ok := calls.Takes(name); least != want[0] || most != want[1] || !ok {
			t.Errorf("P15.1: Takes(%s): %d %d %v, not %v", name, least, most, ok, want)
		}
	}
	for _, name := range noNames() {
		if least, most, ok := calls.Takes(name); least != 0 || most != 0 || ok {
			t.Errorf("P15.1: Takes(%q): %d %d %v", name, least, most, ok)
		}
	}
}

func TestAreas(t *testing.T) {
	for name := range takes() {
		for _, i := range places() {
			if got := calls.Areas(name, i); got != mayBeArea(name, i) {
				t.Errorf("P15.1: Areas(%s, %d): %v", name, i, got)
			}
		}
	}
	for _, name := range noNames() {
		for _, i := range []int{math.MinInt, -1, 0, 1, 2, 255, 256, math.MaxInt} {
			if calls.Areas(name, i) {
				t.Errorf("P15.1: Areas(%q, %d)", name, i)
			}
		}
	}
}

// P15.2: errors.

// ones are n arguments that are right.
func ones(n int) []calls.Arg {
	var l []calls.Arg
	for range n {
		l = append(l, arg(1))
	}
	return l
}

// wrong are arguments that are not right.
func wrong() []calls.Arg {
	one, two := val(1), []api.Value{val(1), val(2)}
	l := []calls.Arg{
		{N: 1}, {N: -1}, {N: math.MaxInt}, {N: math.MinInt}, {V: one, N: 1}, {V: one, L: two}, {V: one, L: two, N: 2}, {L: two[:1]}, {L: []api.Value{blank}}, {L: []api.Value{{Kind: 9}}},
		{Area: true}, {Area: true, N: -1}, {Area: true, N: math.MinInt}, {Area: true, L: two}, {Area: true, L: two, N: 1}, {Area: true, L: two, N: -2},
		{Area: true, L: []api.Value{}, N: 0},
	}
	for _, v := range []api.Value{one, val(0), val(minus), val(""), val("x"), val(false), val(div), val(nan)} {
		l = append(l, calls.Arg{Area: true, V: v, N: 1}, calls.Arg{Area: true, V: v, L: two, N: 2})
	}
	for _, v := range noValues() {
		l = append(l, calls.Arg{V: v}, calls.Arg{Area: true, V: v, N: 1}, calls.Arg{Area: true, V: v, L: two, N: 2})
		for _, in := range [][]api.Value{{v}, {v, one}, {one, v}, {one, v, one}} {
			l = append(l, calls.Arg{Area: true, L: in, N: len(in)}, calls.Arg{Area: true, L: in, N: 4096})
		}
	}
	for _, in := range [][]api.Value{{blank}, {blank, one}, {one, blank}, {one, blank, one}} {
		l = append(l, calls.Arg{Area: true, L: in, N: len(in)}, calls.Arg{Area: true, L: in, N: 4096})
	}
	return l
}

// noValues are values that may not be.
func noValues() []api.Value {
	l := []api.Value{{X: minus}, {X: 1}, {X: nan}, {S: "x"}, {B: true}, {F: 1}, {F: -1}}
	for _, k := range []int{math.MinInt, -1, 5, 9, 257, 1 << 32, 1<<32 + 1, math.MaxInt} {
		l = append(l, api.Value{Kind: k}, api.Value{Kind: k, X: 1}, api.Value{Kind: k, F: 1})
	}
	for _, s := range []string{"\xff", "a\xc3", "\xed\xa0\x80", strings.Repeat("x", 1025), strings.Repeat("x", 1023) + "\u00e9"} {
		l = append(l, api.Value{Kind: 2, S: s})
	}
	for _, f := range []int{math.MinInt, -1, 0, 6, 257, 1<<32 + 1, math.MaxInt} {
		l = append(l, api.Value{Kind: 4, F: f})
	}
	return append(l,
		api.Value{Kind: 1, S: "x"}, api.Value{Kind: 1, B: true}, api.Value{Kind: 1, F: 1},
		api.Value{Kind: 2, X: 1}, api.Value{Kind: 2, X: minus}, api.Value{Kind: 2, B: true}, api.Value{Kind: 2, F: 1},
		api.Value{Kind: 3, X: 1}, api.Value{Kind: 3, X: minus}, api.Value{Kind: 3, S: "x"}, api.Value{Kind: 3, F: 1},
		api.Value{Kind: 4, F: 1, X: 1}, api.Value{Kind: 4, F: 1, X: minus}, api.Value{Kind: 4, F: 1, S: "x"}, api.Value{Kind: 4, F: 1, B: true})
}

func TestNoFunctionGoesAheadOfAll(t *testing.T) {
	for _, name := range noNames() {
		for _, n := range []int{0, 1, 2, 3, 256, 257} {
			checkError(t, name, ones(n), api.ErrName)
		}
		checkError(t, name, args(api.Value{Kind: 9}), api.ErrName)
		checkError(t, name, args(div), api.ErrName)
	}
}

func TestCountGoesAheadOfWrongArguments(t *testing.T) {
	bad := calls.Arg{V: api.Value{Kind: 9}}
	for name, want := range takes() {
		for _, n := range []int{0, 1, 2, 3, 4, 5, 100, 255, 256, 257, 258} {
			if n >= want[0] && n <= want[1] {
				if _, err := calls.Call(name, ones(n)...); err != api.OK {
					t.Errorf("P15.2: %s of %d: %v", name, n, err)
				}
				continue
			}
			checkError(t, name, ones(n), api.ErrCount)
			if n > 0 {
				l := ones(n)
				l[n-1] = bad
				checkError(t, name, l, api.ErrCount)
				l[0] = bad
				checkError(t, name, l, api.ErrCount)
			}
		}
	}
	checkError(t, "SUM", []calls.Arg{}, api.ErrCount)
	checkError(t, "SUM", ones(65536), api.ErrCount)
}

func TestWrongArgumentsAtEachPlace(t *testing.T) {
	for name, want := range takes() {
		for _, n := range []int{want[0], min(want[1], 4), want[1]} {
			for _, i := range []int{0, 1, 2, 3, n - 1} {
				if i < 0 || i >= n {
					continue
				}
				l := ones(n)
				for _, bad := range wrong() {
					l[i] = bad
					checkError(t, name, l, api.ErrArg)
				}
			}
		}
		if want[0] < 2 {
			continue
		}
		// A fault ahead, an area where none may be, an argument that isn't told: none of them goes ahead of it.
		for _, ahead := range []any{div, ar{noRef}, ar{}, false, 2} {
			l := ones(want[0])
			l[0], l[want[0]-1] = arg(ahead), calls.Arg{V: api.Value{Kind: -1}}
			checkError(t, name, l, api.ErrArg)
		}
	}
}

func TestRightArguments(t *testing.T) {
	x := val(7)
	for _, a := range []calls.Arg{
		{}, {L: []api.Value{}}, {V: x}, {V: x, L: []api.Value{}}, {V: x, L: make([]api.Value, 0, 5)},
		{Area: true, N: 1}, {Area: true, L: []api.Value{}, N: 1}, {Area: true, N: math.MaxInt}, {Area: true, L: []api.Value{x}, N: 1}, {Area: true, L: []api.Value{x, x, x}, N: 3}, {Area: true, L: []api.Value{x}, N: math.MaxInt},
	} {
		v, err := calls.Call("COUNTA", a)
		want := len(a.L)
		if a.V.Kind != 0 {
			want++
		}
		if err != api.OK || !alike(v, val(want)) {
			t.Errorf("P15.2: COUNTA of %s: %s %v", toldArgs([]calls.Arg{a}), told(v), err)
		}
	}
}
