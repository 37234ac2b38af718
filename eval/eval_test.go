package eval_test

import (
	"fmt"
	"iter"
	"math"
	"slices"
	"strings"
	"testing"

	"quadrille/addr"
	"quadrille/api"
	"quadrille/eval"
	"quadrille/formula"
	"quadrille/value"
)

// The bits of the NaN that is answered.
const nanBits = 0x7FF8000000000000

var (
	nan   = math.Float64frombits(nanBits)
	other = math.Float64frombits(0xFFF0000000000001)
	minus = math.Copysign(0, -1)
	inf   = math.Inf(1)
	most  = math.MaxFloat64
	// tiny is the least number above 0.
	tiny  = math.Float64frombits(1)
	blank api.Value
)

// nans are float64s that are no numbers of mathematics, of either sign, quiet ones and others.
func nans() []float64 {
	var l []float64
	for _, bits := range []uint64{nanBits, 0xFFF8000000000000, 0x7FF0000000000001, 0xFFF0000000000001, 0x7FFFFFFFFFFFFFFF, 0xFFFFFFFFFFFFFFFF, 0x7FF8000000000001} {
		l = append(l, math.Float64frombits(bits))
	}
	return l
}

// fl is a fault, where values are written out.
type fl int

// The faults, by what they say.
const (
	div    fl = 1
	noNum  fl = 2
	noVal  fl = 3
	noRef  fl = 4
	absent fl = 5
)

// val is a value: nil a blank, a fl a fault, else by its own type.
func val(x any) api.Value {
	switch x := x.(type) {
	case nil:
		return blank
	case int:
		return api.Value{Kind: 1, X: float64(x)}
	case float64:
		return api.Value{Kind: 1, X: x}
	case string:
		return api.Value{Kind: 2, S: x}
	case bool:
		return api.Value{Kind: 3, B: x}
	case fl:
		return api.Value{Kind: 4, F: int(x)}
	case api.Value:
		return x
	}
	panic(fmt.Sprintf("no value: %T", x))
}

// told is a value with all its fields, X by its bits.
func told(v api.Value) string {
	s := fmt.Sprintf("%q", v.S)
	if len(s) > 60 {
		s = fmt.Sprintf("%s.. of %d", s[:60], len(v.S))
	}
	return fmt.Sprintf("{%d %x(%v) %s %v %d}", v.Kind, math.Float64bits(v.X), v.X, s, v.B, v.F)
}

// alike tells whether all fields of two values are the same, bit by bit.
func alike(a, b api.Value) bool {
	return a.Kind == b.Kind && math.Float64bits(a.X) == math.Float64bits(b.X) && a.S == b.S && a.B == b.B && a.F == b.F
}

// cellAt is the cell of a text.
func cellAt(text string) api.Addr {
	r, err := addr.Parse(text)
	if err != api.OK {
		panic("no cell: " + text)
	}
	return r.Addr
}

// areaAt is the area of a text.
func areaAt(text string) api.Area {
	a, err := addr.ParseArea(text)
	if err != api.OK {
		panic("no area: " + text)
	}
	return a
}

// sheet is a source of the tests' own: what cells show, by their texts.
type sheet map[string]any

func (s sheet) Cell(at api.Addr) api.Value {
	text, _ := addr.Text(api.Ref{Addr: at})
	return val(s[text])
}

func (s sheet) Each(a api.Area) iter.Seq2[api.Addr, api.Value] {
	return func(yield func(api.Addr, api.Value) bool) {
		for _, c := range s.cells() {
			if addr.In(a, c.At) && c.V.Kind != 0 && !yield(c.At, c.V) {
				return
			}
		}
	}
}

// cells are the cells of a sheet, in order.
func (s sheet) cells() []api.Cell {
	var l []api.Cell
	for text, v := range s {
		l = append(l, api.Cell{At: cellAt(text), V: val(v)})
	}
	slices.SortFunc(l, func(a, b api.Cell) int { return addr.Order(a.At, b.At) })
	return l
}

// example is the chapter's source.
func example() sheet {
	return sheet{"A1": 2, "A2": "x", "A3": true, "B1": minus, "B2": div}
}

func parsed(t *testing.T, text string) api.Node {
	t.Helper()
	n, bad := formula.Parse(text)
	if bad.Code != api.OK {
		t.Fatalf("%s can't be read: %+v", text, bad)
	}
	return n
}

// check asks what a formula comes to, bit by bit, and whether that may be.
func check(t *testing.T, promise, about string, n api.Node, s eval.Source, want api.Value) {
	t.Helper()
	v, err := eval.Eval(n, s)
	if err != api.OK || !alike(v, want) {
		t.Errorf("%s: %s is %s, %v, not %s", promise, about, told(v), err, told(want))
	}
	if !value.Valid(v) || v.Kind == 0 {
		t.Errorf("%s: %s is %s, which no formula comes to", promise, about, told(v))
	}
}

// checkError asks for an error, and for nothing beside it.
func checkError(t *testing.T, about string, n api.Node, s eval.Source, want api.Errno) {
	t.Helper()
	v, err := eval.Eval(n, s)
	if err != want || !alike(v, blank) {
		t.Errorf("P16.1: %s: %s, %v, not %v", about, told(v), err, want)
	}
}

// row is a formula and what it comes to.
type row struct {
	text string
	want any
}

// checkRows asks them of a source of the tests' own, and of a Table of the same.
func checkRows(t *testing.T, promise string, s sheet, rows []row) {
	t.Helper()
	for _, r := range rows {
		n := parsed(t, r.text)
		check(t, promise, r.text, n, s, val(r.want))
		check(t, promise, r.text+" by a Table", n, eval.Of(s.cells()), val(r.want))
	}
}

// The nodes, made by hand.

func number(x float64) api.Node { return api.Node{Kind: 1, X: x} }

func text(s string) api.Node { return api.Node{Kind: 2, S: s} }

func truth(b bool) api.Node { return api.Node{Kind: 3, B: b} }

func fault(f fl) api.Node { return api.Node{Kind: 4, F: int(f)} }

func ref(text string) api.Node { return api.Node{Kind: 5, Ref: api.Ref{Addr: cellAt(text)}} }

func area(text string) api.Node {
	a := areaAt(text)
	return api.Node{Kind: 6, Ref: api.Ref{Addr: a.From}, To: api.Ref{Addr: a.To}}
}

func one(op int, a api.Node) api.Node { return api.Node{Kind: 7, Op: op, Args: []api.Node{a}} }

func two(op int, a, b api.Node) api.Node { return api.Node{Kind: 8, Op: op, Args: []api.Node{a, b}} }

func called(name string, args ...api.Node) api.Node {
	return api.Node{Kind: 9, S: name, Args: args}
}

// good are values that may be, of each kind.
func good() []api.Value {
	l := []api.Value{blank}
	for _, x := range []any{0, minus, 1, -1, 2, -2.5, 0.5, 3, 64, 65, -64, -65, 0.1, 1e16, 1e300, -1e300, most, -most, tiny, -tiny, inf, -inf,
		"", "x", "X", "2", "-0", "1e999", "0x10", "Inf", "NaN", " 1", "TRUE", "false", "\u00e9\u20ac", "\x00", strings.Repeat("y", 1023), strings.Repeat("z", 1024),
		true, false, div, noNum, noVal, noRef, absent} {
		l = append(l, val(x))
	}
	for _, x := range nans() {
		l = append(l, val(x))
	}
	return l
}

// bad are values that may not be, each in each of its fields.
func bad() []api.Value {
	l := []api.Value{{X: minus}, {X: 1}, {X: nan}, {S: "x"}, {B: true}, {F: 1}, {F: -1}}
	for _, k := range []int{math.MinInt, -1, 5, 9, 257, 1 << 32, 1<<32 + 1, math.MaxInt} {
		l = append(l, api.Value{Kind: k}, api.Value{Kind: k, X: 1}, api.Value{Kind: k, S: "1"}, api.Value{Kind: k, B: true}, api.Value{Kind: k, F: 1})
	}
	for _, s := range []string{"\xff", "a\xc3", "\xed\xa0\x80", strings.Repeat("x", 1025), strings.Repeat("x", 1023) + "\u00e9"} {
		l = append(l, api.Value{Kind: 2, S: s})
	}
	for _, f := range []int{math.MinInt, -1, 0, 6, 257, 1<<32 + 1, math.MaxInt} {
		l = append(l, api.Value{Kind: 4, F: f})
	}
	return append(l,
		api.Value{Kind: 1, S: "x"}, api.Value{Kind: 1, B: true}, api.Value{Kind: 1, F: 1}, api.Value{Kind: 1, X: 1, F: -1},
		api.Value{Kind: 2, X: 1}, api.Value{Kind: 2, X: minus}, api.Value{Kind: 2, B: true}, api.Value{Kind: 2, F: 1},
		api.Value{Kind: 3, X: 1}, api.Value{Kind: 3, X: minus}, api.Value{Kind: 3, S: "x"}, api.Value{Kind: 3, F: 1},
		api.Value{Kind: 4, F: 1, X: 1}, api.Value{Kind: 4, F: 1, X: minus}, api.Value{Kind: 4, F: 1, S: "x"}, api.Value{Kind: 4, F: 1, B: true})
}

// counts is a value as it counts when a source tells it.
func counts(v api.Value) api.Value {
	if !value.Valid(v) {
		return val(noVal)
	}
	if v.Kind == 1 && v.X != v.X {
		return val(nan)
	}
	return v
}

// last is a value as a formula is told to come to it.
func last(v api.Value) api.Value {
	if v.Kind == 0 {
		return val(0)
	}
	return v
}

func TestExamples(t *testing.T) {
	checkRows(t, "P16.1", example(), []row{
		{"1+2*3", 7}, {"A1^2", 4}, {"-A1", -2}, {"A1%", 0.02},
		{"A2+1", noVal}, {"A2&A1", "x2"}, {"A3+1", 2}, {"C9+1", 1}, {"C9", 0}, {`C9&""`, ""},
		{"B1", minus}, {"B1+C9", 0}, {"-C9", minus}, {"1/B1", div}, {"B2+A2", div}, {"A2+B2", noVal},
		{"SUM(A1:B2)", div}, {"COUNT(A1:B2)", 2}, {"A1=2", true}, {`A2="X"`, false}, {"A1<A2", true},
	})
}

func TestNodesOfPlainValues(t *testing.T) {
	s := sheet{}
	for _, x := range []float64{0, 1, 0.1, 1e16, 1e308, most, tiny, 0x1p-1022} {
		check(t, "P16.1", "a number", number(x), s, val(x))
	}
	for _, x := range []string{"", "x", "12", "TRUE", "#DIV!", "=1", "\x00", "\u00e9", "\uFFFD", "\U0010FFFF", strings.Repeat("x", 1024), strings.Repeat("\u20ac", 341)} {
		check(t, "P16.1", "a text", text(x), s, val(x))
	}
	check(t, "P16.1", "true", truth(true), s, val(true))
	check(t, "P16.1", "false", truth(false), s, val(false))
	for _, f := range []fl{div, noNum, noVal, noRef, absent} {
		check(t, "P16.1", "a fault", fault(f), s, val(f))
	}
	checkRows(t, "P16.1", s, []row{{"0", 0}, {"1e308", 1e308}, {`""`, ""}, {`"a""b"`, `a"b`}, {"true", true}, {"FALSE", false}, {"#DIV!", div}, {"#NUM!", noNum}, {"#VALUE!", noVal}, {"#REF!", noRef}, {"#none!", absent}})
}

func TestCellsOfEachValue(t *testing.T) {
	for _, v := range slices.Concat(good(), bad()) {
		want := last(counts(v))
		s := sheet{"B3": v}
		check(t, "P16.1", "a cell that shows "+told(v), ref("B3"), s, want)
		check(t, "P16.1", "a cell of a Table that shows "+told(v), ref("B3"), eval.Of(s.cells()), want)
		check(t, "P16.1", "a cell beside "+told(v), ref("B4"), s, val(0))
		check(t, "P16.1", "a cell beside "+told(v), ref("C3"), s, val(0))
		fixed := api.Node{Kind: 5, Ref: api.Ref{Addr: cellAt("B3"), ColFixed: true, RowFixed: true}}
		check(t, "P16.1", "$B$3 that shows "+told(v), fixed, s, want)
	}
	for _, v := range bad() {
		check(t, "P16.1", "what may not be: "+told(v), ref("B3"), sheet{"B3": v}, val(noVal))
	}
	for _, x := range nans() {
		check(t, "P16.1", "a NaN", ref("B3"), sheet{"B3": x}, val(nan))
	}
	for _, at := range []string{"A1", "IV1", "A4096", "IV4096", "Z26", "AA27"} {
		check(t, "P16.1", at, ref(at), sheet{at: 5, "B2": 7}, val(5))
	}
}

func TestWhatComesToBlank(t *testing.T) {
	checkRows(t, "P16.1", example(), []row{
		{"C9", 0}, {"IF(TRUE,C9)", 0}, {"IF(TRUE,C9,1)", 0}, {"IF(FALSE,1,C9)", 0}, {"IFERROR(C9,1)", 0}, {"IFERROR(B2,C9)", 0}, {"CHOOSE(1,C9)", 0}, {"CHOOSE(2,1,C9)", 0},
		{"IF(TRUE,IFERROR(CHOOSE(1,C9),5))", 0},
		// Within a formula it stays blank.
		{"ISBLANK(C9)", true}, {"ISBLANK(IF(TRUE,C9))", true}, {"ISBLANK(IFERROR(B2,C9))", true}, {"ISBLANK(CHOOSE(1,C9))", true}, {"ISNUMBER(C9)", false}, {"ISBLANK(+C9)", false}, {"COUNTA(C9,IF(TRUE,C9))", 0}, {"COUNTA(C9+0)", 1},
		{"+C9", 0}, {"-C9", minus}, {"C9%", 0}, {"-IF(TRUE,C9)", minus}, {"C9+1", 1}, {"1-C9", 1}, {"C9*-1", minus}, {"C9/2", 0}, {"2/C9", div}, {"C9^0", 1}, {"2^C9", 1}, {"B1+C9", 0}, {"B1+B1", minus},
		{`C9&""`, ""}, {`C9&C9`, ""}, {`"a"&C9`, "a"}, {`C9&"a"`, "a"}, {`IF(TRUE,C9)&"b"`, "b"}, {`CHOOSE(1,C9)&IFERROR(C9,1)`, ""},
		{"C9=0", true}, {`C9=""`, true}, {"C9=FALSE", true}, {"C9=C8", true}, {"C9<>C8", false}, {"C9<1", true}, {"C9<=C8", true}, {"C9>=C8", true}, {`C9<"a"`, true}, {"C9<TRUE", true}, {"0=C9", true}, {`""=IF(TRUE,C9)`, true}, {"C9=B1", true}, {"C9=#REF!", noRef},
		{"SUM(C9)", 0}, {"SUM(C9,1)", 1}, {"ABS(C9)", 0}, {"LEN(C9)", 0}, {"NOT(C9)", true}, {"AND(C9)", noVal}, {"AND(C9,TRUE)", true}, {"AVERAGE(C9)", div}, {"AVERAGE(C9,4)", 4}, {"IF(C9,1,2)", 2}, {"CHOOSE(C9,1)", noVal}, {"EXACT(C9,C8)", true}, {"EXACT(C9,0)", false}, {"JOIN(C9,1,C9)", "1"},
	})
}

func TestSignsAheadAndBehind(t *testing.T) {
	huge, five := 1e308, 0.05
	checkRows(t, "P16.1", sheet{"A1": "12", "A2": true, "A3": false, "A4": inf, "A5": -inf, "A6": other, "A7": "-0", "A8": "x", "A9": noNum, "B1": minus, "B2": huge, "B3": tiny, "B4": ""}, []row{
		{"+5", 5}, {"-5", -5}, {"5%", 0.05}, {"+0", 0}, {"-0", minus}, {"0%", 0}, {"--0", 0}, {"-0%", minus}, {"--5", 5}, {"5%%", five / 100}, {"-50%", -0.5},
		{"+A1", 12}, {"-A1", -12}, {"A1%", 0.12}, {"+A2", 1}, {"-A2", -1}, {"A2%", 0.01}, {"+A3", 0}, {"-A3", minus}, {"A3%", 0},
		{"+A4", inf}, {"-A4", -inf}, {"A4%", inf}, {"+A5", -inf}, {"-A5", inf}, {"A5%", -inf}, {"+A6", nan}, {"-A6", nan}, {"A6%", nan}, {"--A6", nan},
		{"+A7", minus}, {"-A7", 0}, {"A7%", minus}, {"+A8", noVal}, {"-A8", noVal}, {"A8%", noVal}, {"+A9", noNum}, {"-A9", noNum}, {"A9%", noNum}, {"+B4", noVal},
		{"+B1", minus}, {"-B1", 0}, {"B1%", minus}, {"B2%", huge / 100}, {"B3%", 0}, {"-B3%", minus}, {`+"7"`, 7}, {`-"7"`, -7}, {`"7"%`, 0.07}, {"+TRUE", 1}, {"-#REF!", noRef}, {"#NONE!%", absent}, {"+#DIV!", div}, {"-#VALUE!", noVal},
	})
}

func TestOperations(t *testing.T) {
	checkRows(t, "P16.1", sheet{"A1": "12", "A2": true, "A3": "x", "A4": inf, "A5": -inf, "A6": other, "B1": minus, "B2": most, "B3": tiny, "C1": div, "C2": noNum, "C3": noVal, "C4": noRef, "C5": absent}, []row{
		{"1+2", 3}, {"0.1+0.2", 0.30000000000000004}, {"1-2", -1}, {"2*3", 6}, {"1/4", 0.25}, {"2^10", 1024}, {"2-3-4", -5}, {"8/4/2", 1}, {"2^3^2", 64}, {"-2^2", -4}, {"1-1", 0}, {"B1-0", minus}, {"0-B1", 0}, {"0*-1", minus}, {"0/-1", minus},
		{"A1+1", 13}, {"1-A1", -11}, {"A1*A2", 12}, {"A2/A1", 1.0 / 12}, {"A2^A1", 1}, {"A1^A2", 12}, {`"1e1"+"0x10"`, 26}, {"TRUE+TRUE", 2}, {"FALSE*5", 0},
		{"A4+1", inf}, {"A4-A4", nan}, {"A4+A5", nan}, {"A4*0", nan}, {"A4/A4", nan}, {"1/A5", minus}, {"A4^-1", 0}, {"A6+1", nan}, {"A6/0", nan}, {"A6^0", nan}, {"1+A6", nan},
		// The errors of package table.
		{"1/0", div}, {"0/0", div}, {"1/B1", div}, {"0^-1", div}, {"B1^-3", div}, {"B2+B2", noNum}, {"-B2-B2", noNum}, {"B2*2", noNum}, {"B2/0.5", noNum}, {"B2^2", noNum}, {"2^65", noNum}, {"2^1.5", noNum}, {"2^A4", noNum}, {"(-1)^0.5", noNum}, {"A5^0.5", noNum}, {"B3*0.5", 0}, {"B3*-0.5", minus}, {"B3/2", 0},
		// Faults: the first one's goes ahead, whatever the second one is.
		{"C1+C2", div}, {"C2+C1", noNum}, {"C3-C4", noVal}, {"C4*C5", noRef}, {"C5/C4", absent}, {"C1^C5", div}, {"C5+1", absent}, {"1+C5", absent}, {"A3+C1", noVal}, {"C1+A3", div}, {"1/0+A3", div}, {"A3+1/0", noVal}, {"C4/0", noRef}, {"0/C4", noRef}, {"1+A3", noVal}, {"A3*A3", noVal}, {"(1/0)&C4", div},
	})
}

func TestJoined(t *testing.T) {
	s := sheet{"A1": 0.1, "A2": minus, "A3": true, "A4": inf, "A5": other, "A6": "\u00e9", "C1": div, "C2": noNum,
		"D1": strings.Repeat("x", 1023), "D2": strings.Repeat("x", 1024), "D3": strings.Repeat("\u20ac", 341), "D4": strings.Repeat("x", 512)}
	checkRows(t, "P16.1", s, []row{
		{`"a"&"b"`, "ab"}, {`"a"&"b"&"c"`, "abc"}, {`""&""`, ""}, {"1&2", "12"}, {"A1&A2", "0.1-0"}, {"A3&FALSE", "TRUEFALSE"}, {"A4&-A4", "Inf-Inf"}, {"A5&A6", "NaN\u00e9"}, {"1e21&1", "1e211"}, {`1+1&"x"`, "2x"}, {`A6&A6`, "\u00e9\u00e9"},
		{"C1&C2", div}, {"C2&C1", noNum}, {`"a"&C1`, div}, {`C1&"a"`, div}, {"Z9&C2", noNum},
		{`D1&"y"`, strings.Repeat("x", 1023) + "y"}, {`"y"&D1`, "y" + strings.Repeat("x", 1023)}, {`D1&"yz"`, noVal}, {"D1&A6", noVal}, {`D2&""`, strings.Repeat("x", 1024)}, {`""&D2`, strings.Repeat("x", 1024)}, {`D2&"y"`, noVal}, {`"y"&D2`, noVal}, {"D2&D2", noVal}, {"D2&1", noVal},
		{`D3&"y"`, strings.Repeat("\u20ac", 341) + "y"}, {"D3&A6", noVal}, {"D4&D4", strings.Repeat("x", 1024)}, {`D4&D4&"y"`, noVal}, {`D4&(D4&"y")`, noVal}, {"D2&C1", div}, {`IFERROR(D2&1,"long")`, "long"},
	})
}

func TestComparisons(t *testing.T) {
	s := sheet{"A1": 2, "A2": "x", "A3": true, "A4": minus, "A5": other, "A6": other, "C1": div, "C2": noNum}
	checkRows(t, "P16.1", s, []row{
		{"A1=2", true}, {"A1<>2", false}, {"A1<2", false}, {"A1<=2", true}, {"A1>2", false}, {"A1>=2", true}, {"1<A1", true}, {"A1>1", true}, {"A1>=3", false},
		{"A4=0", true}, {"A4<0", false}, {"A4<=0", true}, {"A5=A6", false}, {"A5=A5", false}, {"A5<>A5", true}, {"A5<1", false}, {"A5>=1", false}, {`A5<"x"`, true},
		{`A2="x"`, true}, {`A2="X"`, false}, {`A2<"y"`, true}, {`A2>"X"`, true}, {`A1<A2`, true}, {`A2<A3`, true}, {"A3>A1", true}, {"A3=TRUE", true}, {"FALSE<TRUE", true}, {`2="2"`, false}, {"1=TRUE", false}, {"1<2=TRUE", true}, {"3>2>1", true},
		{"C1=C2", div}, {"C2<C1", noNum}, {"C1=C1", div}, {"A1<>C1", div}, {"C2>=A2", noNum}, {"C1&C2=C2", div}, {"ISERROR(C1=C1)", true},
	})
}

func TestEachOperationWithEachValue(t *testing.T) {
	values := append(good(), bad()[:12]...)
	a, b := cellAt("D4"), cellAt("C7")
	for _, v := range values {
		s := shows{a: v}
		for op := api.OpPlus; op <= api.OpPercent; op++ {
			n := one(op, ref("D4"))
			check(t, "P16.1", fmt.Sprintf("sign %d of %s", op, told(v)), n, s, last(model(n, s)))
		}
		for _, u := range values {
			s[b] = u
			for op := api.OpAdd; op <= api.OpGe; op++ {
				n := two(op, ref("D4"), ref("C7"))
				check(t, "P16.1", fmt.Sprintf("operation %d of %s and %s", op, told(v), told(u)), n, s, last(model(n, s)))
			}
		}
	}
}

// P16.1: errors.

// refusal is a formula that formula.Check refuses, and how.
type refusal struct {
	n    api.Node
	want api.Errno
}

// refused are such formulas, of each kind in each way.
func refused() []refusal {
	var l []refusal
	add := func(want api.Errno, list ...api.Node) {
		for _, n := range list {
			l = append(l, refusal{n, want})
		}
	}
	x, cell := number(1), api.Ref{Addr: cellAt("B2")}
	for _, k := range []int{math.MinInt, -1, 0, 10, 257, 1 << 32, 1<<32 + 1, math.MaxInt} {
		add(api.ErrArg, api.Node{Kind: k}, api.Node{Kind: k, X: 1}, api.Node{Kind: k, Args: []api.Node{x}})
	}
	for _, y := range append(nans(), minus, -1, inf, -inf, -tiny) {
		add(api.ErrArg, number(y))
	}
	add(api.ErrArg, text("\xff"), text("a\xc3"), text(strings.Repeat("x", 1025)), fault(0), fault(6), fault(-1), fault(fl(math.MinInt)))
	for _, op := range []int{math.MinInt, -1, 0, api.OpAdd, api.OpGe, 16, math.MaxInt} {
		add(api.ErrArg, one(op, x))
	}
	for _, op := range []int{math.MinInt, -1, 0, api.OpPlus, api.OpPercent, 16, math.MaxInt} {
		add(api.ErrArg, two(op, x, x))
	}
	add(api.ErrArg, api.Node{Kind: 7, Op: 1}, api.Node{Kind: 7, Op: 1, Args: []api.Node{x, x}}, api.Node{Kind: 8, Op: 4}, api.Node{Kind: 8, Op: 4, Args: []api.Node{x}}, api.Node{Kind: 8, Op: 4, Args: []api.Node{x, x, x}})
	for kind, n := range []api.Node{1: x, text("x"), truth(true), fault(div), ref("B2"), area("B2:C3"), one(1, x), two(4, x, x), called("SUM", x)} {
		if kind > 0 {
			add(api.ErrArg, spoiled(n, cell)...)
		}
	}
	for _, at := range none() {
		r := api.Ref{Addr: at}
		add(api.ErrAddr, api.Node{Kind: 5, Ref: r}, api.Node{Kind: 6, Ref: r, To: cell}, api.Node{Kind: 6, Ref: cell, To: r}, api.Node{Kind: 6, Ref: r, To: r})
		add(api.ErrAddr, called("SUM", api.Node{Kind: 6, Ref: r, To: cell}), called("SUM", api.Node{Kind: 6, Ref: cell, To: r}))
	}
	add(api.ErrAddr, called("SUM", api.Node{Kind: 6, Ref: cell, To: api.Ref{Addr: cellAt("A2")}}), called("SUM", api.Node{Kind: 6, Ref: cell, To: api.Ref{Addr: cellAt("B1")}}))
	add(api.ErrName, called(""), called("sum", x), called("SUMS", x), called("TRUE"), called("FOO", x))
	add(api.ErrCount, called("SUM"), called("NA", x), called("ABS"), called("ABS", x, x), called("IF", x), called("IF", x, x, x, x), called("CHOOSE", x))
	add(api.ErrSyntax, area("B2:C3"), area("B2"), one(2, area("B2:C3")), two(4, x, area("B2")), two(9, area("B2:C3"), x), called("SUM", one(1, area("B2:C3"))))
	add(api.ErrDeep, deep(33), deep(40))
	add(api.ErrMany, wide(257), wide(300), called("SUM", wide(256)), deep(300), endless())
	return l
}

// spoiled are a node with each field more that its kind doesn't have.
func spoiled(n api.Node, cell api.Ref) []api.Node {
	var l []api.Node
	add := func(ok bool, change func(n *api.Node)) {
		m := n
		if change(&m); ok {
			l = append(l, m)
		}
	}
	k := n.Kind
	add(k != 7 && k != 8, func(n *api.Node) { n.Op = 4 })
	add(k != 1, func(n *api.Node) { n.X = 1 })
	add(k != 1, func(n *api.Node) { n.X = minus })
	add(k != 2 && k != 9, func(n *api.Node) { n.S = "SUM" })
	add(k != 3, func(n *api.Node) { n.B = true })
	add(k != 4, func(n *api.Node) { n.F = 1 })
	add(k != 5 && k != 6, func(n *api.Node) { n.Ref = cell })
	add(k != 5 && k != 6, func(n *api.Node) { n.Ref.ColFixed = true })
	add(k != 6, func(n *api.Node) { n.To = cell })
	add(k < 7, func(n *api.Node) { n.Args = []api.Node{number(1)} })
	return l
}

// none are addresses of no cell.
func none() []api.Addr {
	l := []api.Addr{{}, {Col: 1}, {Row: 1}, {Col: 257, Row: 1}, {Col: 1, Row: 4097}, {Col: 257, Row: 4097}, {Col: 1<<32 + 1, Row: 1}, {Col: 1, Row: 1<<32 + 1}}
	for _, far := range []int{math.MinInt, -1, math.MaxInt} {
		l = append(l, api.Addr{Col: far, Row: 1}, api.Addr{Col: 1, Row: far}, api.Addr{Col: far, Row: far})
	}
	return l
}

// deep is a formula of so many nodes above one another: 1 with signs ahead.
func deep(n int) api.Node {
	out := number(1)
	for range n - 1 {
		out = one(api.OpMinus, out)
	}
	return out
}

// wide is a formula of so many nodes: a sum of 1s.
func wide(n int) api.Node {
	out := called("SUM")
	for range n - 1 {
		out.Args = append(out.Args, number(1))
	}
	return out
}

// endless is a formula that stands within itself.
func endless() api.Node {
	args := []api.Node{number(1)}
	args[0] = api.Node{Kind: 7, Op: 1, Args: args}
	return args[0]
}

// around are a node within others.
func around(n api.Node) []api.Node {
	return []api.Node{
		one(2, n), two(4, n, number(1)), two(4, number(1), n), two(9, text(""), n), two(10, n, n), called("SUM", n), called("SUM", number(1), n, number(2)), called("ABS", n),
		called("IF", truth(true), number(1), n), called("IFERROR", number(1), n), called("CHOOSE", number(1), number(2), n), called("COUNT", two(5, fault(div), one(3, n))),
	}
}

func TestRefusedFormulas(t *testing.T) {
	full := eval.Of(example().cells())
	for i, r := range refused() {
		about := fmt.Sprintf("refused formula %d, of kind %d", i, r.n.Kind)
		checkError(t, about, r.n, full, r.want)
		checkError(t, about+" of a sheet of the tests' own", r.n, sheet{}, r.want)
		checkError(t, about+" without a source", r.n, nil, api.ErrArg)
		for _, n := range around(r.n) {
			want := formula.Check(n)
			if want == api.OK { // an area among a call's arguments
				continue
			}
			checkError(t, about+" within another one", n, full, want)
			checkError(t, about+" within another one, without a source", n, nil, api.ErrArg)
		}
	}
}

func TestNoSource(t *testing.T) {
	for _, text := range []string{"1", "A1", "SUM(A1:B2)", `"x"&1`, "1/0", "NA()", "IF(TRUE,1,A1)"} {
		checkError(t, text+" without a source", parsed(t, text), nil, api.ErrArg)
	}
	var s eval.Source
	checkError(t, "a Source that is nil", number(1), s, api.ErrArg)
	// A Table that is nil shows nothing; it is a source.
	var none *eval.Table
	check(t, "R1", "A1 of a nil Table", parsed(t, "A1"), none, val(0))
	check(t, "R1", "COUNTA(A1:C9)+1 of a nil Table", parsed(t, "COUNTA(A1:C9)+1"), none, val(1))
	// Nor is one that nobody made.
	check(t, "R1", "A1&SUM(A1:B2) of a zero Table", parsed(t, "A1&SUM(A1:B2)"), &eval.Table{}, val("0"))
}

func TestFormulasAsGreatAsMayBe(t *testing.T) {
	s := sheet{"A1": 3, "A2": 4}
	check(t, "P16.1", "256 nodes", wide(256), s, val(255))
	check(t, "P16.1", "depth 32", deep(32), s, val(-1))
	check(t, "P16.1", "depth 31", deep(31), s, val(1))
	cells := called("SUM")
	for range 127 {
		cells.Args = append(cells.Args, ref("A1"), area("A1:A2"))
	}
	check(t, "P16.1", "255 nodes", cells, s, val(127*10))
	cells.Args = append(cells.Args, ref("A2"))
	check(t, "P16.1", "256 nodes with areas", cells, s, val(127*10+4))
	full := ref("A1")
	for i := range 31 {
		full = two([]int{api.OpAdd, api.OpSub, api.OpMul}[i%3], full, ref("A2"))
	}
	for _, at := range []int{5, 17, 30} {
		n := full
		for range 31 - at {
			n = n.Args[0]
		}
		if got := formula.Check(n); got != api.OK {
			t.Fatal(got)
		}
		check(t, "P16.1", "a part", n, s, last(model(n, s.shows())))
	}
	check(t, "P16.1", "depth 32 of operations", full, s, last(model(full, s.shows())))
	checkError(t, "depth 33 of operations", two(4, full, ref("A2")), s, api.ErrDeep)
}
