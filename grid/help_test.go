package grid_test

import (
	"fmt"
	"math"
	"slices"
	"strings"
	"testing"

	"quadrille/addr"
	"quadrille/api"
	"quadrille/formula"
	"quadrille/grid"
)

const theNaN = 0x7ff8 << 48

var (
	minus = math.Copysign(0, -1)
	empty api.Content
)

// nans are floats that are no numbers of mathematics, of several kinds: quiet, signalling, of both signs, with other bits.
func nans() []float64 {
	var l []float64
	for _, bits := range []uint64{theNaN, 0xfff8 << 48, 0x7ff<<52 | 1, 0xfff<<52 | 1, 0x7fffffffffffffff, math.MaxUint64, 0x7ff8<<48 | 1, 0xfff4 << 48} {
		l = append(l, math.Float64frombits(bits))
	}
	return l
}

// cellAt is the cell of a text.
func cellAt(text string) api.Addr {
	r, err := addr.Parse(text)
	if err != api.OK {
		panic("no cell: " + text)
	}
	return r.Addr
}

// areaAt is the area of a text.
func areaAt(text string) api.Area {
	a, err := addr.ParseArea(text)
	if err != api.OK {
		panic("no area: " + text)
	}
	return a
}

// val is a value that may be; an int is a fault.
func val(x any) api.Value {
	switch x := x.(type) {
	case float64:
		return api.Value{Kind: api.Number, X: x}
	case string:
		return api.Value{Kind: api.Text, S: x}
	case bool:
		return api.Value{Kind: api.Truth, B: x}
	case int:
		return api.Value{Kind: api.Fault, F: x}
	}
	panic("no value")
}

func plain(x any) api.Content { return api.Content{Kind: api.Plain, V: val(x)} }

func num(x float64) api.Content { return plain(x) }

func tree(text string) api.Node {
	n, bad := formula.Parse(text)
	if bad != (api.Mishap{}) {
		panic("no formula: " + text)
	}
	return n
}

// fx is the content of a formula's text.
func fx(text string) api.Content { return api.Content{Kind: api.Formula, F: tree(text)} }

// told is all that a content has, bit by bit; lists without elements are alike.
func told(c api.Content) string {
	return fmt.Sprintf("{%d %s %s}", c.Kind, toldValue(c.V), toldNode(c.F))
}

func toldValue(v api.Value) string {
	return fmt.Sprintf("%d/%x/%q/%v/%d", v.Kind, math.Float64bits(v.X), v.S, v.B, v.F)
}

func toldNode(n api.Node) string {
	var b strings.Builder
	fmt.Fprintf(&b, "%d/%d/%x/%q/%v/%d/%v/%v(", n.Kind, n.Op, math.Float64bits(n.X), n.S, n.B, n.F, n.Ref, n.To)
	for _, a := range n.Args {
		b.WriteString(toldNode(a))
	}
	return b.String() + ")"
}

func short(s string) string {
	if len(s) > 300 {
		return s[:300] + ".."
	}
	return s
}

// clean is a content in new memory with the NaN in the place of every other one, as P17.1 says it.
func clean(c api.Content) api.Content {
	if math.IsNaN(c.V.X) {
		c.V.X = math.Float64frombits(theNaN)
	}
	c.F = cleanNode(c.F)
	return c
}

func cleanNode(n api.Node) api.Node {
	if math.IsNaN(n.X) {
		n.X = math.Float64frombits(theNaN)
	}
	var args []api.Node
	for _, a := range n.Args {
		args = append(args, cleanNode(a))
	}
	n.Args = args
	return n
}

// roomy is a content whose lists have room behind them that holds something.
func roomy(c api.Content) api.Content {
	c.F = roomyNode(c.F)
	return c
}

func roomyNode(n api.Node) api.Node {
	if n.Args == nil {
		return n
	}
	full := make([]api.Node, 0, len(n.Args)+2)
	for _, a := range n.Args {
		full = append(full, roomyNode(a))
	}
	n.Args = append(full, api.Node{Kind: 77, S: "spare"}, api.Node{Kind: 78, X: 1})[:len(n.Args)]
	return n
}

// lists are a node's lists, room too.
func lists(n api.Node) [][]api.Node {
	if cap(n.Args) == 0 {
		return nil
	}
	l := [][]api.Node{n.Args[:cap(n.Args)]}
	for _, a := range n.Args {
		l = append(l, lists(a)...)
	}
	return l
}

// toldWhole is a content with its lists' spare room.
func toldWhole(c api.Content) string {
	text := told(c)
	for _, l := range lists(c.F) {
		for _, n := range l {
			text += toldNode(n)
		}
	}
	return text
}

// writeOver writes over all lists of a content, their room too.
func writeOver(c api.Content) {
	for _, l := range lists(c.F) {
		for i := range l {
			l[i] = api.Node{Kind: -7, S: "over", X: 7}
		}
	}
}

// far are numbers that are no column's and no row's, each way.
func far() []int {
	return []int{math.MinInt, math.MinInt + 1, -4096, -1, 0, 4097, 1 << 16, 1<<32 + 1, math.MaxInt - 1, math.MaxInt}
}

// noCells are addresses of no cell.
func noCells() []api.Addr {
	l := []api.Addr{{}, {Col: 257, Row: 1}, {Col: 257, Row: 4096}, {Col: 1, Row: 4097}, {Col: 256, Row: 4097}, {Col: 257, Row: 4097}, {Col: 4096, Row: 256}}
	for _, n := range far() {
		l = append(l, api.Addr{Col: n, Row: 1}, api.Addr{Col: 1, Row: n}, api.Addr{Col: n, Row: n}, api.Addr{Col: 256, Row: n}, api.Addr{Col: n, Row: 4096})
	}
	return l
}

// noAreas are areas that may not be.
func noAreas() []api.Area {
	a, b := cellAt("A1"), cellAt("IV4096")
	l := []api.Area{{}, {From: cellAt("B1"), To: a}, {From: cellAt("A2"), To: a}, {From: cellAt("B2"), To: a}, {From: cellAt("B1"), To: cellAt("A9")}, {From: cellAt("A9"), To: cellAt("B1")}, {From: b, To: a}}
	for _, at := range noCells() {
		l = append(l, api.Area{From: a, To: at}, api.Area{From: at, To: b}, api.Area{From: at, To: at})
	}
	return l
}

// good are contents that may be and are not empty, no two of them the same.
func good() []api.Content {
	l := []api.Content{
		num(0), num(minus), num(1), num(-1), num(math.Inf(1)), num(math.Inf(-1)), num(math.NaN()), num(0x1p-1074), num(-0x1p-1074), num(math.MaxFloat64), num(0.1),
		plain(""), plain("x"), plain("X"), plain("x\x00"), plain("1"), plain("TRUE"), plain("=A1"), plain("é"), plain("\ufffd"), plain(strings.Repeat("x", 1024)), plain(strings.Repeat("é", 512)),
		plain(true), plain(false), plain(1), plain(2), plain(3), plain(4), plain(5),
	}
	for _, text := range []string{"0", "1", `""`, `"x"`, "TRUE", "FALSE", "#DIV!", "#NONE!", "A1", "$A1", "A$1", "$A$1", "IV4096", "-1", "+1", "1%", "A1+1", "1+A1", "(1+2)+3", "1+(2+3)", "SUM(A1:B2)", "SUM($A1:B2)", "SUM(A1:B2,A1:B2)", "NA()", "IF(A1=1,SUM(B1:B9)*2,\"no\")"} {
		l = append(l, fx(text))
	}
	return append(l, fx(strings.Repeat("-", 31)+"1"), fx("SUM("+strings.Repeat("1,", 254)+"1)"))
}

// noValues are values that may not be, each in each of its fields.
func noValues() []api.Value {
	nan := nans()
	l := []api.Value{
		{X: 1}, {X: minus}, {X: nan[0]}, {X: nan[3]}, {S: "x"}, {B: true}, {F: 1},
		{Kind: 1, X: 1, S: "x"}, {Kind: 1, B: true}, {Kind: 1, F: 1},
		{Kind: 2, S: "x", X: 1}, {Kind: 2, X: minus}, {Kind: 2, X: nan[1]}, {Kind: 2, B: true}, {Kind: 2, F: 1}, {Kind: 2, S: "\xff"}, {Kind: 2, S: "a\xc3"}, {Kind: 2, S: strings.Repeat("x", 1025)},
		{Kind: 3, B: true, X: 1}, {Kind: 3, X: minus}, {Kind: 3, X: nan[2]}, {Kind: 3, S: "x"}, {Kind: 3, F: 1},
		{Kind: 4, F: 1, X: 1}, {Kind: 4, F: 1, X: minus}, {Kind: 4, F: 1, X: nan[4]}, {Kind: 4, F: 1, S: "x"}, {Kind: 4, F: 1, B: true}, {Kind: 4}, {Kind: 4, F: 6}, {Kind: 4, F: -1}, {Kind: 4, F: math.MinInt}, {Kind: 4, F: math.MaxInt},
	}
	for _, k := range []int{-1, 5, 6, math.MinInt, math.MaxInt} {
		l = append(l, api.Value{Kind: k}, api.Value{Kind: k, X: 1}, api.Value{Kind: k, S: "x"})
	}
	return l
}

// notZeroNodes are nodes of which some field is not zero.
func notZeroNodes() []api.Node {
	l := []api.Node{
		{Kind: 1}, {Kind: -1}, {Kind: math.MinInt}, {Op: 1}, {Op: -1}, {X: 1}, {X: minus}, {X: math.Inf(1)}, {X: 0x1p-1074}, {S: "x"}, {S: "\x00"}, {B: true}, {F: 1}, {F: math.MaxInt},
		{Ref: api.Ref{Addr: api.Addr{Col: 1}}}, {Ref: api.Ref{Addr: api.Addr{Row: 1}}}, {Ref: api.Ref{ColFixed: true}}, {Ref: api.Ref{RowFixed: true}},
		{To: api.Ref{Addr: api.Addr{Col: -1}}}, {To: api.Ref{Addr: api.Addr{Row: -1}}}, {To: api.Ref{ColFixed: true}}, {To: api.Ref{RowFixed: true}},
		{Args: []api.Node{{}}}, {Args: []api.Node{{}, {}}}, {Args: []api.Node{{Args: []api.Node{}}}}, endless(), tree("1"), tree("A1"), tree("A1+1"), tree("SUM(A1:B2)"),
	}
	for _, x := range nans() {
		l = append(l, api.Node{X: x})
	}
	return l
}

// zeroNodes are zero: a list without elements, with room or without, is none.
func zeroNodes() []api.Node {
	return []api.Node{{}, {Args: []api.Node{}}, {Args: make([]api.Node, 0, 3)}, {Args: []api.Node{tree("1"), tree("A1")}[:0]}}
}

// endless is a node that stands within itself: formula.Check counts more nodes of it than may be.
func endless() api.Node {
	l := make([]api.Node, 2)
	n := api.Node{Kind: api.NodeCall, S: "SUM", Args: l}
	l[0], l[1] = n, n
	return n
}

// chain is a node below so many others.
func chain(n api.Node, above int) api.Node {
	for range above {
		n = api.Node{Kind: api.NodeUnary, Op: api.OpMinus, Args: []api.Node{n}}
	}
	return n
}

// noFormulas are nodes that formula.Check refuses, and a zero one.
func noFormulas() []api.Node {
	area := tree("SUM(A1:B2)").Args[0]
	ref := func(col, row int) api.Node {
		return api.Node{Kind: api.NodeRef, Ref: api.Ref{Addr: api.Addr{Col: col, Row: row}}}
	}
	call := func(name string, args ...api.Node) api.Node {
		return api.Node{Kind: api.NodeCall, S: name, Args: args}
	}
	many := make([]api.Node, 256)
	for i := range many {
		many[i] = tree("1")
	}
	l := []api.Node{
		{}, {Kind: -1}, {Kind: 10}, {Kind: math.MinInt}, {Kind: math.MaxInt}, {Args: []api.Node{}},
		{Kind: api.NodeNumber, X: -1}, {Kind: api.NodeNumber, X: minus}, {Kind: api.NodeNumber, X: math.Inf(1)}, {Kind: api.NodeNumber, S: "x"}, {Kind: api.NodeNumber, Args: []api.Node{{}}},
		{Kind: api.NodeText, S: "\xff"}, {Kind: api.NodeText, S: strings.Repeat("x", 1025)}, {Kind: api.NodeText, X: minus}, {Kind: api.NodeTruth, F: 1}, {Kind: api.NodeFault}, {Kind: api.NodeFault, F: 6},
		ref(0, 1), ref(1, 0), ref(257, 1), ref(1, 4097), ref(math.MinInt, math.MaxInt), area, chain(area, 1),
		{Kind: api.NodeUnary, Op: api.OpMinus}, {Kind: api.NodeUnary, Op: api.OpAdd, Args: []api.Node{tree("1")}}, {Kind: api.NodeBinary, Op: api.OpAdd, Args: []api.Node{tree("1")}}, {Kind: api.NodeBinary, Op: 16, Args: []api.Node{tree("1"), tree("1")}},
		call("SUM"), call("sum", tree("1")), call("FOO", tree("1")), call("NA", tree("1")), call("SUM", api.Node{}), chain(tree("1"), 32), call("SUM", many...), endless(), chain(endless(), 3),
	}
	for _, x := range nans() {
		l = append(l, api.Node{Kind: api.NodeNumber, X: x}, call("SUM", tree("1"), api.Node{Kind: api.NodeNumber, X: x}))
	}
	return l
}

// bad are contents that may not be.
func bad() []api.Content {
	var l []api.Content
	for _, k := range []int{-1, -2, 3, 4, 9, math.MinInt, math.MinInt + 1, math.MaxInt} {
		l = append(l, api.Content{Kind: k}, api.Content{Kind: k, V: val(7.)}, api.Content{Kind: k, F: tree("A1+1")})
	}
	for _, v := range append(noValues(), val(0.), val(7.), val(minus), val("x"), val(""), val(true), val(false), val(1)) {
		l = append(l, api.Content{V: v}, api.Content{Kind: api.Formula, V: v, F: tree("A1+1")})
	}
	for _, v := range append(noValues(), api.Value{}) {
		l = append(l, api.Content{Kind: api.Plain, V: v})
	}
	for _, n := range notZeroNodes() {
		l = append(l, api.Content{F: n}, api.Content{Kind: api.Plain, V: val(7.), F: n}, api.Content{Kind: api.Plain, V: val("x"), F: n})
	}
	for _, n := range noFormulas() {
		l = append(l, api.Content{Kind: api.Formula, F: n})
	}
	return l
}

// mustPut puts a content that is taken.
func mustPut(t *testing.T, g *grid.Grid, at api.Addr, c api.Content) {
	t.Helper()
	if err := g.Put(at, c); err != api.OK {
		t.Fatalf("P17.2: Put(%v, %s): %d", at, short(told(c)), err)
	}
}

// gridOf is a grid of contents by their cells' texts: a number, a text, a truth; a text that begins with = is a formula.
func gridOf(t *testing.T, cells map[string]any) *grid.Grid {
	t.Helper()
	g := grid.New()
	for text, x := range cells {
		mustPut(t, g, cellAt(text), contentOf(x))
	}
	return g
}

func contentOf(x any) api.Content {
	if s, ok := x.(string); ok && strings.HasPrefix(s, "=") {
		return fx(s[1:])
	}
	return plain(x)
}

// puts are the cells that an iterator goes over.
func puts(seq func(func(api.Addr, api.Content) bool)) []api.Put {
	var l []api.Put
	for at, c := range seq {
		l = append(l, api.Put{At: at, C: c})
	}
	return l
}

func toldPuts(l []api.Put) string {
	var b strings.Builder
	for _, p := range l {
		fmt.Fprintf(&b, "%d,%d:%s ", p.At.Col, p.At.Row, told(p.C))
	}
	return b.String()
}

func samePuts(a, b []api.Put) bool {
	return slices.EqualFunc(a, b, func(x, y api.Put) bool { return x.At == y.At && told(x.C) == told(y.C) })
}
