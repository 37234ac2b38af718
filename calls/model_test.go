package calls_test

import (
	"cmp"
	"math"
	"math/big"
	"math/rand"
	"slices"
	"strings"
	"testing"

	"quadrille/api"
	"quadrille/calls"
	"quadrille/order"
	"quadrille/show"
	"quadrille/sums"
	"quadrille/table"
	"quadrille/value"
)

// What each argument of a function is asked for: N a number, W a whole one, T a truth, S a text, V a value, A a value whose fault doesn't go first, n, t, s numbers, truths, texts of a value or an area, c whatever there is. The last letter goes on.
var asks = map[string]string{
	"NA": "", "ABS": "N", "INT": "N", "ISBLANK": "A", "ISERROR": "A", "ISNUMBER": "A", "ISTEXT": "A", "LEN": "S", "NOT": "T", "SIGN": "N", "SINGLE": "N", "SQRT": "N", "TRUNC": "N", "VALUE": "N",
	"EXACT": "VV", "LARGE": "nW", "LEFT": "SW", "MOD": "NN", "PERCENTILE": "nN", "POWER": "NN", "REPT": "SW", "RIGHT": "SW", "ROUND": "NW", "ROUNDDOWN": "NW", "ROUNDEVEN": "NW", "ROUNDUP": "NW", "SMALL": "nW", "SUMPRODUCT": "nn", "TEXT": "NS",
	"RANK": "NnN", "COUNTIF": "nSN", "FUSED": "NNN", "MID": "SWW",
	"AND": "t", "OR": "t", "JOIN": "s", "COUNT": "c", "COUNTA": "c",
	"AVERAGE": "n", "MAX": "n", "MEDIAN": "n", "MIN": "n", "MODE": "n", "STDEV": "n", "STDEVP": "n", "SUM": "n", "SUMSQ": "n", "VAR": "n", "VARP": "n",
}

func letter(name string, i int) byte {
	s := asks[name]
	return s[min(i, len(s)-1)]
}

// wholeOf cuts a number; false where 64 bits don't hold it.
func wholeOf(x float64) (int64, bool) {
	if math.IsNaN(x) || math.IsInf(x, 0) {
		return 0, false
	}
	n, _ := new(big.Float).SetFloat64(x).Int(nil)
	return n.Int64(), n.IsInt64()
}

// faultOf is an argument's fault, 0 where it has none, as the chapter's Words have it.
func faultOf(a calls.Arg, ask byte) int {
	if ask == 'c' {
		return 0
	}
	if a.Area {
		return faultOfArea(a.L, ask)
	}
	fault := 0
	switch ask {
	case 'N', 'n':
		_, fault = value.Num(a.V)
	case 'W':
		var x float64
		x, fault = value.Num(a.V)
		if _, ok := wholeOf(x); fault == 0 && !ok {
			fault = 2
		}
	case 'T', 't':
		_, fault = value.Bool(a.V)
	case 'S', 's', 'V':
		_, fault = value.Str(a.V)
	}
	return fault
}

func faultOfArea(l []api.Value, ask byte) int {
	if !strings.ContainsRune("nts", rune(ask)) {
		return 3
	}
	for _, v := range l {
		if v.Kind == 4 {
			return v.F
		}
		if ask == 't' && v.Kind == 1 && v.X != v.X {
			return 2
		}
	}
	return 0
}

// numbersOf are the numbers of an argument without a fault.
func numbersOf(a calls.Arg) []float64 {
	var l []float64
	if a.Area {
		for _, v := range a.L {
			if v.Kind == 1 {
				l = append(l, v.X)
			}
		}
	} else if a.V.Kind != 0 {
		x, _ := value.Num(a.V)
		l = append(l, x)
	}
	return l
}

// model is what a call with right arguments comes to.
func model(name string, l []calls.Arg) api.Value {
	switch name {
	case "IF":
		return modelIf(l)
	case "IFERROR":
		if v := modelTold(l[0]); v.Kind != 4 {
			return v
		}
		return modelTold(l[1])
	case "CHOOSE":
		return modelChoose(l)
	}
	for i, a := range l {
		if f := faultOf(a, letter(name, i)); f != 0 {
			return val(fl(f))
		}
	}
	switch asks[name] {
	case "n":
		return modelNumbers(name, l)
	case "N", "NN", "NNN", "NW":
		return modelOnes(name, l)
	case "nW", "nN", "nn", "NnN", "nSN":
		return modelLists(name, l)
	case "S", "SW", "SWW", "NS", "s":
		return modelTexts(name, l)
	}
	return modelRest(name, l)
}

func modelTold(a calls.Arg) api.Value {
	switch {
	case a.Area:
		return val(noVal)
	case a.V.Kind == 1 && a.V.X != a.V.X:
		return val(nan)
	}
	return a.V
}

func modelIf(l []calls.Arg) api.Value {
	if f := faultOf(l[0], 'T'); f != 0 {
		return val(fl(f))
	}
	if c, _ := value.Bool(l[0].V); c {
		return modelTold(l[1])
	}
	if len(l) == 2 {
		return val(false)
	}
	return modelTold(l[2])
}

func modelChoose(l []calls.Arg) api.Value {
	if f := faultOf(l[0], 'W'); f != 0 {
		return val(fl(f))
	}
	x, _ := value.Num(l[0].V)
	if k, _ := wholeOf(x); k >= 1 && k <= int64(len(l)-1) {
		return modelTold(l[k])
	}
	return val(noVal)
}

// by is a number or the fault of an error.
func by(x float64, err api.Errno) api.Value { return value.ByError(x, err) }

func modelNumbers(name string, args []calls.Arg) api.Value {
	var l []float64
	for _, a := range args {
		l = append(l, numbersOf(a)...)
	}
	switch name {
	case "SUM":
		return by(sums.Sum(l))
	case "SUMSQ":
		return by(sums.Dot(l, l))
	case "MIN", "MAX", "MODE":
		return modelPicked(name, l)
	case "MEDIAN":
		if len(l) == 0 {
			return val(noNum)
		}
		return by(order.Middle(l))
	case "AVERAGE":
		if len(l) == 0 {
			return val(div)
		}
		return by(sums.Mean(l))
	}
	sample := name == "VAR" || name == "STDEV"
	if len(l) == 0 || len(l) == 1 && sample {
		return val(div)
	}
	x, err := sums.Variance(l, sample)
	if err == api.OK && strings.HasPrefix(name, "STDEV") {
		x, err = math.Sqrt(x), api.OK
	}
	return by(x, err)
}

// rise is the order of numbers.
func rise(a, b float64) int {
	if a != a || b != b {
		return cmp.Compare(truthAs(a != a), truthAs(b != b))
	}
	if a == b {
		return cmp.Compare(truthAs(math.Signbit(b)), truthAs(math.Signbit(a)))
	}
	return cmp.Compare(a, b)
}

func truthAs(b bool) int {
	if b {
		return 1
	}
	return 0
}

func modelPicked(name string, l []float64) api.Value {
	if len(l) == 0 && name != "MODE" {
		return val(0)
	}
	s := slices.Clone(l)
	slices.SortFunc(s, rise)
	switch {
	case name == "MIN":
		return by(s[0], api.OK)
	case name == "MAX":
		return by(s[len(s)-1], api.OK)
	}
	best, times := val(absent), 1
	for i, x := range s {
		n := 0
		for _, y := range s[i:] {
			if x == y || x != x && y != y {
				n++
			}
		}
		if n > times {
			best, times = by(x, api.OK), n
		}
	}
	return best
}

func modelOnes(name string, l []calls.Arg) api.Value {
	var x [3]float64
	for i, a := range l {
		x[i], _ = value.Num(a.V)
	}
	a := x[0]
	bad := math.IsNaN(a) || math.IsInf(a, 0)
	switch name {
	case "ABS":
		return by(math.Float64frombits(math.Float64bits(a)&^(1<<63)), 0)
	case "SIGN":
		if a > 0 || a < 0 {
			return val(math.Copysign(1, a))
		}
		return by(a+0, 0)
	case "INT", "TRUNC":
		if a != a {
			return val(noNum)
		}
		if name == "INT" {
			return val(math.Floor(a))
		}
		return val(math.Trunc(a))
	case "SINGLE":
		y := float64(float32(a))
		if math.IsInf(y, 0) && !bad {
			return val(noNum)
		}
		return by(y, 0)
	case "VALUE":
		return by(a, 0)
	case "SQRT":
		return by(table.Root(a))
	case "MOD":
		return by(table.Mod(a, x[1]))
	case "POWER":
		return by(table.Power(a, x[1]))
	case "FUSED":
		return by(table.Fused(a, x[1], x[2]))
	}
	n := math.Trunc(x[1])
	if n < -30 || n > 30 || bad {
		return val(noNum)
	}
	mode := map[string]int{"ROUND": 2, "ROUNDEVEN": 1, "ROUNDDOWN": 5, "ROUNDUP": 3}[name]
	if name == "ROUNDUP" && a < 0 {
		mode = 4
	}
	return by(table.Places(a, int(n), mode))
}

func modelLists(name string, l []calls.Arg) api.Value {
	switch name {
	case "SUMPRODUCT":
		a, b := numbersOf(l[0]), numbersOf(l[1])
		if len(a) != len(b) {
			return val(noVal)
		}
		return by(sums.Dot(a, b))
	case "RANK":
		return modelRank(l)
	case "COUNTIF":
		return modelCountIf(l)
	}
	s := slices.Clone(numbersOf(l[0]))
	slices.SortFunc(s, rise)
	x, _ := value.Num(l[1].V)
	if name == "PERCENTILE" {
		y, err := order.Share(s, x)
		if err != api.OK {
			return val(noNum)
		}
		return by(y, 0)
	}
	k, _ := wholeOf(x)
	if k < 1 || k > int64(len(s)) {
		return val(noNum)
	}
	if name == "LARGE" {
		slices.Reverse(s)
	}
	return by(s[k-1], 0)
}

func modelRank(l []calls.Arg) api.Value {
	x, _ := value.Num(l[0].V)
	rising := false
	if len(l) == 3 {
		way, _ := value.Num(l[2].V)
		rising = way != 0
	}
	found, n := false, 1
	for _, y := range numbersOf(l[1]) {
		found = found || y == x
		if rising && y < x || !rising && y > x {
			n++
		}
	}
	if !found {
		return val(absent)
	}
	return val(n)
}

func modelCountIf(l []calls.Arg) api.Value {
	sign, _ := value.Str(l[1].V)
	x, _ := value.Num(l[2].V)
	n := 0
	for _, y := range numbersOf(l[0]) {
		n += truthAs(sign == "=" && y == x || sign == "<>" && y != x || sign == "<" && y < x || sign == "<=" && y <= x || sign == ">" && y > x || sign == ">=" && y >= x)
	}
	if !slices.Contains([]string{"=", "<>", "<", "<=", ">", ">="}, sign) {
		return val(noVal)
	}
	return val(n)
}

func modelTexts(name string, l []calls.Arg) api.Value {
	switch name {
	case "JOIN":
		return modelJoin(l)
	case "TEXT":
		x, _ := value.Num(l[0].V)
		code, _ := value.Str(l[1].V)
		f, err := show.Read(code)
		if err != api.OK {
			return val(noVal)
		}
		s, _ := show.Show(x, f)
		return val(s)
	}
	s, _ := value.Str(l[0].V)
	signs := []rune(s)
	var n [3]int64
	for i, a := range l[1:] {
		x, _ := value.Num(a.V)
		n[i+1], _ = wholeOf(x)
	}
	size := int64(len(signs))
	switch {
	case name == "LEN":
		return val(int(size))
	case n[1] < 0 || n[2] < 0 || name == "MID" && n[1] == 0:
		return val(noVal)
	case name == "LEFT":
		return val(string(signs[:min(size, n[1])]))
	case name == "RIGHT":
		return val(string(signs[size-min(size, n[1]):]))
	case name == "MID":
		from := min(size, n[1]-1)
		return val(string(signs[from : from+min(size-from, n[2])]))
	}
	bytes := new(big.Int).Mul(big.NewInt(n[1]), big.NewInt(int64(len(s))))
	if bytes.Cmp(big.NewInt(1024)) > 0 {
		return val(noVal)
	}
	out := ""
	for len(out) < int(bytes.Int64()) {
		out += s
	}
	return val(out)
}

func modelJoin(l []calls.Arg) api.Value {
	out := ""
	for _, a := range l {
		for _, v := range append([]api.Value{a.V}, a.L...) {
			s, _ := value.Str(v)
			out += s
		}
	}
	if len(out) > 1024 {
		return val(noVal)
	}
	return val(out)
}

func modelRest(name string, l []calls.Arg) api.Value {
	switch name {
	case "NA":
		return val(absent)
	case "NOT":
		b, _ := value.Bool(l[0].V)
		return val(!b)
	case "ISBLANK":
		return val(l[0].V.Kind == 0)
	case "ISERROR":
		return val(l[0].V.Kind == 4)
	case "ISNUMBER":
		return val(l[0].V.Kind == 1)
	case "ISTEXT":
		return val(l[0].V.Kind == 2)
	case "EXACT":
		return val(alike(modelTold(l[0]), modelTold(l[1])))
	case "AND", "OR":
		return modelTruths(name, l)
	}
	n := 0
	for _, a := range l {
		for _, v := range append([]api.Value{a.V}, a.L...) {
			n += truthAs(v.Kind == 1 || name == "COUNTA" && v.Kind != 0)
		}
	}
	return val(n)
}

func modelTruths(name string, l []calls.Arg) api.Value {
	yes, no := 0, 0
	for _, a := range l {
		for _, v := range append([]api.Value{a.V}, a.L...) {
			if v.Kind == 0 || a.Area && v.Kind == 2 {
				continue
			}
			b, _ := value.Bool(v)
			yes += truthAs(b)
			no += truthAs(!b)
		}
	}
	switch {
	case yes+no == 0:
		return val(noVal)
	case name == "AND":
		return val(no == 0)
	}
	return val(yes > 0)
}

// few are arguments of each kind, areas too; many are more of them.
func few() []calls.Arg {
	return args(nil, 0, minus, 1, -1, 2.5, 3, nan, inf, -inf, 1e300, "", "x", "1", "2.5e0", "TRUE", ">=", "f2", "a\u00e9\u20ac\U0001F600z", true, false, div, noRef,
		ar{}, ar{1}, ar{3, 1, -2, 3}, ar{"x"}, ar{true, 0}, ar{other, absent}, ar{"1", noNum, div})
}

func many() []calls.Arg {
	l := args(2, -2, 0.5, -0.5, 0.1, 1.9, -1.9, 30, 31, -30, -31, 30.9, -30.9, 64, 65, 1024, 1025, 513, tiny, -tiny, small, most, -most, 1e308, 0x1p63, -0x1p63, math.Nextafter(0x1p63, 0), math.Nextafter(-0x1p63, -inf), 0x1p31, 0x1p32, 0x1p53, math.MaxFloat32, 0x1.ffffffp127, 0x1.fffffefffffffp127, 0x1p-149, 0x1p-150,
		"-0", "0x10", "1e999", "Inf", "NaN", " 1", "1 ", "true", "FALSE", "fALSE", "TRUE ", "T", "<", "<=", "<>", "=", ">", "==", "=>", "> ", "g0", "q1", "p1,", "s3:12", "F2", "f31", strings.Repeat("x", 1024), strings.Repeat("ab", 256), strings.Repeat("\u20ac", 341),
		noNum, noVal, absent,
		ar{nan}, ar{minus}, ar{0, minus, 0}, ar{true}, ar{false}, ar{""}, ar{div}, ar{noRef, noNum}, ar{1, 2}, ar{1, 2, 2, 1}, ar{1e16, 1, -1e16}, ar{most, most}, ar{inf, 1}, ar{inf, -inf}, ar{nan, nan, 1}, ar{"x", nan, div}, ar{"x", div, nan}, ar{1, "x", true, 2, false}, ar{strings.Repeat("x", 1000), 123456789}, ar{0.1, 0.2, 0.3, 10}, ar{tiny, tiny, -tiny})
	for _, x := range nans() {
		l = append(l, arg(x))
	}
	return append(few(), l...)
}

func checkModel(t *testing.T, name string, l ...calls.Arg) {
	t.Helper()
	check(t, "P15.2", name, l, model(name, l))
}

func TestEachValueAsEachArgument(t *testing.T) {
	wide, narrow := many(), few()
	for _, name := range names() {
		least, most := takes()[name][0], takes()[name][1]
		variadic := most == 256
		if least == 0 {
			checkModel(t, name)
		}
		for _, a := range wide {
			if least <= 1 && most >= 1 {
				checkModel(t, name, a)
			}
			if least > 2 || most < 2 {
				continue
			}
			second := wide
			if variadic {
				second = narrow
			}
			for _, b := range second {
				checkModel(t, name, a, b)
				if variadic {
					checkModel(t, name, b, a)
				}
			}
		}
		if most != 3 {
			continue
		}
		for _, a := range narrow {
			for _, b := range narrow {
				for _, c := range narrow {
					checkModel(t, name, a, b, c)
				}
			}
		}
	}
}

func TestSomeValuesAsAllArguments(t *testing.T) {
	r := rand.New(rand.NewSource(15))
	wide := many()
	for _, name := range names() {
		least, most := takes()[name][0], takes()[name][1]
		for range 1500 {
			n := least + r.Intn(min(most, 6)-least+1)
			if most == 256 && r.Intn(50) == 0 {
				n = 250 + r.Intn(7)
			}
			var l []calls.Arg
			for range n {
				l = append(l, wide[r.Intn(len(wide))])
			}
			if r.Intn(3) > 0 {
				l = withoutFaults(l)
			}
			checkModel(t, name, l...)
		}
	}
}

// withoutFaults puts 1 into the place of whatever might be a fault.
func withoutFaults(l []calls.Arg) []calls.Arg {
	var out []calls.Arg
	for _, a := range l {
		_, fault := value.Num(a.V)
		if fault != 0 || faultOfArea(a.L, 't') != 0 {
			a = arg(1)
		}
		out = append(out, a)
	}
	return out
}
