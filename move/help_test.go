package move_test

import (
	"fmt"
	"math"
	"strconv"
	"strings"
	"testing"

	"quadrille/addr"
	"quadrille/api"
	"quadrille/formula"
	"quadrille/grid"
	"quadrille/move"
	"quadrille/write"
)

// chapter is the grid of the chapter's examples.
const chapter = "A1 1; B1 =A3*2; A2 2; A3 =SUM(A1:A2)+A2"

func xy(col, row int) api.Addr { return api.Addr{Col: col, Row: row} }

func cell(text string) api.Addr {
	r, err := addr.Parse(text)
	if err != api.OK {
		panic("no cell: " + text)
	}
	return r.Addr
}

func area(text string) api.Area {
	a, err := addr.ParseArea(text)
	if err != api.OK {
		panic("no area: " + text)
	}
	return a
}

func tree(text string) api.Node {
	n, bad := formula.Parse(text)
	if bad != (api.Mishap{}) {
		panic("no formula: " + text)
	}
	return n
}

// content is that of a text: a formula behind =, a text behind ', else a truth, a fault or a number.
func content(text string) api.Content {
	if rest, is := strings.CutPrefix(text, "="); is {
		return api.Content{Kind: api.Formula, F: tree(rest)}
	}
	v := api.Value{Kind: api.Text}
	if rest, is := strings.CutPrefix(text, "'"); is {
		v.S = rest
	} else if text == "TRUE" || text == "FALSE" {
		v = api.Value{Kind: api.Truth, B: text == "TRUE"}
	} else if strings.HasPrefix(text, "#") {
		v = api.Value{Kind: api.Fault, F: tree(text).F}
	} else if x, err := strconv.ParseFloat(text, 64); err == nil {
		v = api.Value{Kind: api.Number, X: x}
	} else {
		panic("no content: " + text)
	}
	return api.Content{Kind: api.Plain, V: v}
}

func put(g *grid.Grid, at api.Addr, c api.Content) {
	if err := g.Put(at, c); err != api.OK {
		panic(fmt.Sprintf("Put(%v): %d", at, err))
	}
}

// laid is a grid out of a text: "A1 7; B1 =A1+1".
func laid(text string) *grid.Grid {
	g := grid.New()
	for one := range strings.SplitSeq(text, "; ") {
		if at, c, is := strings.Cut(one, " "); is {
			put(g, cell(at), content(c))
		}
	}
	return g
}

func name(at api.Addr) string {
	text, err := addr.Text(api.Ref{Addr: at})
	if err != api.OK {
		return fmt.Sprint(at)
	}
	return text
}

// told is a grid as laid reads it.
func told(g *grid.Grid) string {
	if g == nil {
		return "no grid"
	}
	var l []string
	for at, c := range g.All() {
		l = append(l, name(at)+" "+toldShort(c))
	}
	return strings.Join(l, "; ")
}

func toldShort(c api.Content) string {
	if c.Kind == api.Formula {
		text, _ := write.Text(c.F)
		return "=" + text
	}
	switch c.V.Kind {
	case api.Text:
		return "'" + c.V.S
	case api.Truth:
		return strings.ToUpper(strconv.FormatBool(c.V.B))
	case api.Fault:
		text, _ := write.Text(api.Node{Kind: api.NodeFault, F: c.V.F})
		return text
	}
	return strconv.FormatFloat(c.V.X, 'g', -1, 64)
}

func toldNode(n api.Node) string {
	var b strings.Builder
	fmt.Fprintf(&b, "%d/%d/%x/%q/%v/%d/%v/%v(", n.Kind, n.Op, math.Float64bits(n.X), n.S, n.B, n.F, n.Ref, n.To)
	for _, a := range n.Args {
		b.WriteString(toldNode(a))
	}
	return b.String() + ")"
}

func toldValue(v api.Value) string {
	return fmt.Sprintf("%d/%x/%q/%v/%d", v.Kind, math.Float64bits(v.X), v.S, v.B, v.F)
}

// toldGrid is all that a grid has, bit by bit.
func toldGrid(g *grid.Grid) string {
	if g == nil {
		return "no grid"
	}
	var b strings.Builder
	for at, c := range g.All() {
		fmt.Fprintf(&b, "%s: %d %s %s\n", name(at), c.Kind, toldValue(c.V), toldNode(c.F))
	}
	return b.String()
}

func short(s string) string {
	if len(s) > 400 {
		return s[:400] + ".."
	}
	return s
}

func sameTold(t testing.TB, about, got, want string) {
	t.Helper()
	if got == want {
		return
	}
	a, b := strings.Split(got, "\n"), strings.Split(want, "\n")
	for i := range min(len(a), len(b)) {
		if a[i] != b[i] {
			t.Errorf("%s: line %d of %d is %s, not %s", about, i, len(a), short(a[i]), short(b[i]))
			return
		}
	}
	t.Errorf("%s: %d lines, not %d", about, len(a), len(b))
}

// is holds an answer against a grid's text.
func is(t testing.TB, about string, g *grid.Grid, err api.Errno, want string) {
	t.Helper()
	if err != api.OK || told(g) != want {
		t.Errorf("%s: %s, error %d, not %s", about, short(told(g)), err, short(want))
	}
}

// refused holds an answer against an error; beside it there must be no grid.
func refused(t testing.TB, about string, g *grid.Grid, err, want api.Errno) {
	t.Helper()
	if err != want || g != nil {
		t.Errorf("%s: %s, error %d, not error %d", about, short(told(g)), err, want)
	}
}

// noNumbers are numbers of no row and no column.
func noNumbers() []int {
	return []int{math.MinInt, math.MinInt + 1, -1 << 32, -4097, -4096, -257, -256, -1, 0, 4097, 4098, 1<<32 + 1, math.MaxInt - 1, math.MaxInt}
}

// noCells are addresses of no cell.
func noCells() []api.Addr {
	l := []api.Addr{{}, xy(257, 1), xy(257, 4096), xy(1, 4097), xy(256, 4097), xy(257, 4097), xy(4096, 256)}
	for _, n := range noNumbers() {
		l = append(l, xy(n, 1), xy(1, n), xy(n, n), xy(256, n), xy(n, 4096))
	}
	return l
}

// noAreas are areas that may not be.
func noAreas() []api.Area {
	first, last := cell("A1"), cell("IV4096")
	l := []api.Area{{}, {From: cell("B1"), To: first}, {From: cell("A2"), To: first}, {From: cell("B2"), To: first}, {From: cell("B1"), To: cell("A9")}, {From: cell("A9"), To: cell("B1")}, {From: last, To: first}}
	for _, at := range noCells() {
		l = append(l, api.Area{From: first, To: at}, api.Area{From: at, To: last}, api.Area{From: at, To: at})
	}
	return l
}

// chain is a node below so many others.
func chain(n api.Node, above int) api.Node {
	for range above {
		n = api.Node{Kind: api.NodeUnary, Op: api.OpMinus, Args: []api.Node{n}}
	}
	return n
}

func call(name string, args ...api.Node) api.Node {
	return api.Node{Kind: api.NodeCall, S: name, Args: args}
}

// noFormulas are nodes that formula.Check refuses, by each of its errors.
func noFormulas() []api.Node {
	one, here := tree("1"), tree("SUM(A1:B2)").Args[0]
	many := make([]api.Node, api.MaxNodes)
	for i := range many {
		many[i] = one
	}
	// A node that stands within itself, so that it never ends.
	endless := call("SUM", make([]api.Node, 2)...)
	endless.Args[0], endless.Args[1] = endless, endless
	return []api.Node{
		{}, {Kind: -1}, {Kind: 10}, {Kind: math.MaxInt}, {Args: []api.Node{one}},
		{Kind: api.NodeNumber, X: -1}, {Kind: api.NodeNumber, X: math.Copysign(0, -1)}, {Kind: api.NodeNumber, X: math.NaN()}, {Kind: api.NodeNumber, X: math.Inf(1)},
		{Kind: api.NodeText, S: "\xff"}, {Kind: api.NodeText, S: strings.Repeat("x", 1025)}, {Kind: api.NodeFault}, {Kind: api.NodeFault, F: 6},
		{Kind: api.NodeRef}, {Kind: api.NodeRef, Ref: api.Ref{Addr: xy(257, 1)}}, {Kind: api.NodeRef, Ref: api.Ref{Addr: xy(1, 4097)}}, {Kind: api.NodeRef, Ref: api.Ref{Addr: xy(1, 1)}, S: "x"},
		{Kind: api.NodeRef, Ref: api.Ref{Addr: xy(1, 1)}, Args: []api.Node{one}},
		{Kind: api.NodeUnary, Op: api.OpMinus}, {Kind: api.NodeBinary, Op: api.OpMinus, Args: []api.Node{one, one}}, here, chain(here, 1),
		call("SUM"), call("sum", one), call("FOO", one), call("NA", one), call("SUM", api.Node{}), call("SUM", api.Node{Kind: api.NodeArea, Ref: here.To, To: here.Ref}),
		chain(one, api.MaxDeep), call("SUM", many...), endless, chain(endless, 3),
	}
}

// full is a grid of as many cells as may be: each second one of the rows 1 to 32, A1, C1, B2, D2 and so on. Each cell has another number.
func full() *grid.Grid {
	g := grid.New()
	for row := 1; row <= 32; row++ {
		for col := 1; col <= api.MaxCol; col++ {
			if (row+col)%2 == 0 {
				put(g, xy(col, row), content(strconv.Itoa(row*1000+col)))
			}
		}
	}
	if g.Len() != api.MaxCells {
		panic("not full")
	}
	return g
}

// act is one of the calls that answer a grid, with its arguments.
type act struct {
	what string
	do   func(g *grid.Grid) (*grid.Grid, api.Errno)
}

func rows(at, n int) act {
	return act{fmt.Sprintf("P22.2: Rows(%d, %d)", at, n), func(g *grid.Grid) (*grid.Grid, api.Errno) { return move.Rows(g, at, n) }}
}

func cols(at, n int) act {
	return act{fmt.Sprintf("P22.2: Cols(%d, %d)", at, n), func(g *grid.Grid) (*grid.Grid, api.Errno) { return move.Cols(g, at, n) }}
}

func copied(from api.Area, to api.Addr) act {
	return act{fmt.Sprintf("P22.3: Copy(%v, %v)", from, to), func(g *grid.Grid) (*grid.Grid, api.Errno) { return move.Copy(g, from, to) }}
}

func filled(from api.Addr, to api.Area) act {
	return act{fmt.Sprintf("P22.4: Fill(%v, %v)", from, to), func(g *grid.Grid) (*grid.Grid, api.Errno) { return move.Fill(g, from, to) }}
}

func moved(from api.Area, to api.Addr) act {
	return act{fmt.Sprintf("P22.5: Move(%v, %v)", from, to), func(g *grid.Grid) (*grid.Grid, api.Errno) { return move.Move(g, from, to) }}
}

func cleared(a api.Area) act {
	return act{fmt.Sprintf("P22.6: Clear(%v)", a), func(g *grid.Grid) (*grid.Grid, api.Errno) { return move.Clear(g, a) }}
}

// comesTo does a call to a grid, and holds what comes of it against a text; the grid stays as it was.
func (a act) comesTo(t testing.TB, g *grid.Grid, want string) {
	t.Helper()
	was := toldGrid(g)
	h, err := a.do(g)
	is(t, a.what, h, err, want)
	if h == g {
		t.Errorf("P22.7: %s answers the grid itself", a.what)
	}
	sameTold(t, "P22.7: "+a.what+": the grid behind it", toldGrid(g), was)
}

// isRefused does a call that is refused; the grid stays as it was (of a great one the test itself asks that once).
func (a act) isRefused(t testing.TB, g *grid.Grid, want api.Errno) {
	t.Helper()
	few, was := g.Len() < 100, ""
	if few {
		was = toldGrid(g)
	}
	h, err := a.do(g)
	refused(t, a.what, h, err, want)
	if few {
		sameTold(t, "R2: "+a.what+": the grid behind it", toldGrid(g), was)
	}
}

// stays holds a grid against what it was at first.
func stays(t testing.TB, g *grid.Grid, was string) {
	t.Helper()
	sameTold(t, "P22.7: the grid behind all that was done", toldGrid(g), was)
}

// mustDo does a call that is taken.
func (a act) mustDo(t testing.TB, g *grid.Grid) *grid.Grid {
	t.Helper()
	h, err := a.do(g)
	if err != api.OK || h == nil {
		t.Fatalf("%s: error %d", a.what, err)
	}
	return h
}

// TestNil: of a nil grid each call answers ErrArg, ahead of all else.
func TestNil(t *testing.T) {
	one, none := area("A1"), api.Area{}
	for _, a := range []act{
		rows(1, 1), rows(1, 0), rows(1, -1), rows(0, 0), rows(4097, math.MaxInt), cols(1, 1), cols(1, 0), cols(256, -256), cols(257, 0),
		copied(one, cell("A1")), copied(one, api.Addr{}), copied(none, cell("A1")), copied(none, api.Addr{}),
		filled(cell("A1"), one), filled(api.Addr{}, one), filled(cell("A1"), none), filled(api.Addr{}, none),
		moved(one, cell("A1")), moved(one, api.Addr{}), moved(none, cell("A1")), moved(none, api.Addr{}),
		cleared(one), cleared(none),
	} {
		a.isRefused(t, nil, api.ErrArg)
	}
}

// TestNothing: grids without contents, one of them made without New, come to grids without contents.
func TestNothing(t *testing.T) {
	all := area("A1:IV4096")
	for _, g := range []*grid.Grid{grid.New(), {}} {
		for _, a := range []act{
			rows(1, 4096), rows(4096, 4096), rows(1, -4096), rows(1, 0), rows(4096, -1), cols(1, 256), cols(256, -256), cols(256, 1),
			copied(all, cell("A1")), copied(area("A1:B2"), cell("IU4095")), filled(cell("A1"), all), filled(cell("IV4096"), area("A1")),
			moved(all, cell("A1")), moved(area("A1:B2"), cell("B2")), cleared(all), cleared(area("C3")),
		} {
			a.comesTo(t, g, "")
		}
		cols(257, 1).isRefused(t, g, api.ErrArg)
		copied(all, cell("A2")).isRefused(t, g, api.ErrAddr)
		moved(all, cell("B1")).isRefused(t, g, api.ErrAddr)
	}
}
