package lines_test

import (
	"fmt"
	"math"
	"strings"
	"testing"

	"quadrille/addr"
	"quadrille/api"
	"quadrille/formula"
	"quadrille/grid"
	"quadrille/lines"
)

var minus = math.Copysign(0, -1)

func xy(col, row int) api.Addr { return api.Addr{Col: col, Row: row} }

func cell(text string) api.Addr {
	r, err := addr.Parse(text)
	if err != api.OK {
		panic("no cell: " + text)
	}
	return r.Addr
}

func area(text string) api.Area {
	a, err := addr.ParseArea(text)
	if err != api.OK {
		panic("no area: " + text)
	}
	return a
}

func tree(text string) api.Node {
	n, bad := formula.Parse(text)
	if bad != (api.Mishap{}) {
		panic("no formula: " + text)
	}
	return n
}

func num(x float64) api.Content {
	return api.Content{Kind: api.Plain, V: api.Value{Kind: api.Number, X: x}}
}

func text(s string) api.Content {
	return api.Content{Kind: api.Plain, V: api.Value{Kind: api.Text, S: s}}
}

func truth(b bool) api.Content {
	return api.Content{Kind: api.Plain, V: api.Value{Kind: api.Truth, B: b}}
}

func fault(f int) api.Content {
	return api.Content{Kind: api.Plain, V: api.Value{Kind: api.Fault, F: f}}
}

func form(text string) api.Content { return api.Content{Kind: api.Formula, F: tree(text)} }

func put(g *grid.Grid, at api.Addr, c api.Content) {
	if err := g.Put(at, c); err != api.OK {
		panic(fmt.Sprintf("Put(%v): %d", at, err))
	}
}

// gridOf is a grid of cells' texts and contents, one behind the other.
func gridOf(l ...any) *grid.Grid {
	g := grid.New()
	for i := 0; i < len(l); i += 2 {
		put(g, cell(l[i].(string)), l[i+1].(api.Content))
	}
	return g
}

func toldNode(n api.Node) string {
	var b strings.Builder
	fmt.Fprintf(&b, "%d/%d/%x/%q/%v/%d/%v/%v(", n.Kind, n.Op, math.Float64bits(n.X), n.S, n.B, n.F, n.Ref, n.To)
	for _, a := range n.Args {
		b.WriteString(toldNode(a))
	}
	return b.String() + ")"
}

func toldValue(v api.Value) string {
	return fmt.Sprintf("%d/%x/%q/%v/%d", v.Kind, math.Float64bits(v.X), v.S, v.B, v.F)
}

// told is all that a content has, bit by bit.
func told(c api.Content) string {
	return fmt.Sprintf("%d %s %s", c.Kind, toldValue(c.V), toldNode(c.F))
}

// toldGrid is all that a grid has, bit by bit.
func toldGrid(g *grid.Grid) string {
	if g == nil {
		return "no grid"
	}
	var b strings.Builder
	for at, c := range g.All() {
		fmt.Fprintf(&b, "%v: %s\n", at, told(c))
	}
	return b.String()
}

// toldPuts is all that puts have, bit by bit.
func toldPuts(l []api.Put) string {
	var b strings.Builder
	for _, p := range l {
		fmt.Fprintf(&b, "%v: %s\n", p.At, told(p.C))
	}
	return b.String()
}

func short(s string) string {
	if len(s) > 300 {
		return s[:150] + ".." + s[len(s)-100:]
	}
	return s
}

// mishaps tell whether two errors with their places differ, as a text.
func mishaps(got, want api.Mishap) string {
	return fmt.Sprintf("error %d at %d, not %d at %d", got.Code, got.At, want.Code, want.At)
}

// entry holds what Entry answers against a content.
func entry(t testing.TB, typed string, want api.Content) {
	t.Helper()
	c, bad := lines.Entry(typed)
	if bad != (api.Mishap{}) || told(c) != told(want) {
		t.Errorf("P23.1: Entry(%q): %s, error %d at %d, not %s", short(typed), short(told(c)), bad.Code, bad.At, short(told(want)))
	}
}

// noEntry holds it against a mishap, beside which the content is empty.
func noEntry(t testing.TB, typed string, code api.Errno, at int) {
	t.Helper()
	c, bad := lines.Entry(typed)
	if want := (api.Mishap{Code: code, At: at}); bad != want || told(c) != told(api.Content{}) {
		t.Errorf("P23.1: Entry(%q): %s; %s", short(typed), short(told(c)), mishaps(bad, want))
	}
}

// types holds what Typed answers against a text, and what Entry reads of that against the content.
func types(t testing.TB, c api.Content, want string) {
	t.Helper()
	s, err := lines.Typed(c)
	if err != api.OK || s != want {
		t.Errorf("P23.2: Typed(%s): %q, error %d, not %q", short(told(c)), short(s), err, short(want))
	}
	back, bad := lines.Entry(s)
	if bad != (api.Mishap{}) || told(back) != told(grid.Copy(c)) {
		t.Errorf("P23.7: Entry(%q): %s, error %d, not %s", short(s), short(told(back)), bad.Code, short(told(c)))
	}
}

// writes holds what Write answers against a text, and what Read reads of that against the grid.
func writes(t testing.TB, g *grid.Grid, want string) {
	t.Helper()
	was := toldGrid(g)
	s, err := lines.Write(g)
	if err != api.OK || s != want {
		t.Errorf("P23.3: Write: %q, error %d, not %q", short(s), err, short(want))
	}
	if toldGrid(g) != was {
		t.Errorf("R3: Write has changed the grid of %q", short(want))
	}
	h, bad := lines.Read(want)
	if bad != (api.Mishap{}) || toldGrid(h) != was {
		t.Errorf("P23.4: Read(%q): %s, error %d at %d, not %s", short(want), short(toldGrid(h)), bad.Code, bad.At, short(was))
	}
}

const head = "quadrille 1\n"

// noRead holds what Read answers against a mishap, beside which there is no grid.
func noRead(t testing.TB, s string, code api.Errno, at int) {
	t.Helper()
	g, bad := lines.Read(s)
	if want := (api.Mishap{Code: code, At: at}); bad != want || g != nil {
		t.Errorf("P23.4: Read(%q): %s; %s", short(s), short(toldGrid(g)), mishaps(bad, want))
	}
}

// noLine holds what Read answers of a line, well headed and ended, against an error.
func noLine(t testing.TB, line string, code api.Errno) {
	t.Helper()
	noRead(t, head+line+"\nend 1\n", code, 2)
}

var general = api.Format{Kind: api.General}

// tables holds what Table answers against a text.
func tables(t testing.TB, l []api.Cell, a api.Area, f api.Format, want string) {
	t.Helper()
	s, err := lines.Table(l, a, f)
	if err != api.OK || s != want {
		t.Errorf("P23.5: Table(%v, %v): %q, error %d, not %q", a, f, short(s), err, short(want))
	}
}

func noTable(t testing.TB, l []api.Cell, a api.Area, f api.Format, want api.Errno) {
	t.Helper()
	s, err := lines.Table(l, a, f)
	if err != want || s != "" {
		t.Errorf("P23.5: Table(%v, %v): %q, error %d, not %d", a, f, short(s), err, want)
	}
}

// shows is a cell that shows a content's value.
func shows(at string, c api.Content) api.Cell { return api.Cell{At: cell(at), V: c.V} }

// reads holds what Numbers answers against cells' texts and contents, one behind the other.
func reads(t testing.TB, s, at string, want ...any) {
	t.Helper()
	var l []api.Put
	for i := 0; i < len(want); i += 2 {
		l = append(l, api.Put{At: cell(want[i].(string)), C: want[i+1].(api.Content)})
	}
	puts, bad := lines.Numbers(s, cell(at))
	if bad != (api.Mishap{}) || toldPuts(puts) != toldPuts(l) {
		t.Errorf("P23.6: Numbers(%q, %s): %s, error %d at %d, not %s", short(s), at, short(toldPuts(puts)), bad.Code, bad.At, short(toldPuts(l)))
	}
}

// noReads holds it against a mishap, beside which there are no puts.
func noReads(t testing.TB, s string, at api.Addr, code api.Errno, place int) {
	t.Helper()
	puts, bad := lines.Numbers(s, at)
	if want := (api.Mishap{Code: code, At: place}); bad != want || len(puts) != 0 {
		t.Errorf("P23.6: Numbers(%q, %v): %s; %s", short(s), at, short(toldPuts(puts)), mishaps(bad, want))
	}
}

// noCells are addresses of no cell.
func noCells() []api.Addr {
	l := []api.Addr{{}, xy(257, 1), xy(257, 4096), xy(1, 4097), xy(256, 4097), xy(257, 4097), xy(4096, 256)}
	for _, n := range []int{math.MinInt, math.MinInt + 1, -1 << 32, -4097, -257, -1, 0, 4097, 1<<32 + 1, math.MaxInt - 1, math.MaxInt} {
		l = append(l, xy(n, 1), xy(1, n), xy(n, n), xy(256, n), xy(n, 4096))
	}
	return l
}

// noAreas are areas that may not be.
func noAreas() []api.Area {
	first, last := cell("A1"), cell("IV4096")
	l := []api.Area{{}, {From: cell("B1"), To: first}, {From: cell("A2"), To: first}, {From: cell("B1"), To: cell("A9")}, {From: cell("A9"), To: cell("B1")}, {From: last, To: first}}
	for _, at := range noCells() {
		l = append(l, api.Area{From: first, To: at}, api.Area{From: at, To: last}, api.Area{From: at, To: at})
	}
	return l
}

// noValues are values that may not be.
func noValues() []api.Value {
	l := []api.Value{{Kind: -1}, {Kind: 5}, {Kind: math.MaxInt}, {X: minus}, {X: 1}, {S: "x"}, {B: true}, {F: 1}}
	for _, v := range []api.Value{num(1).V, text("x").V, truth(true).V, fault(1).V} {
		for field := range 4 {
			if w := spoilt(v, field); field != v.Kind-1 {
				l = append(l, w)
			}
		}
	}
	return append(l, text("\xff").V, text("a\xc3").V, text(strings.Repeat("x", 1025)).V, fault(0).V, fault(6).V, fault(-1).V)
}

// spoilt is a value with another field that is not zero, by its number.
func spoilt(v api.Value, field int) api.Value {
	switch field {
	case 0:
		v.X = minus
	case 1:
		v.S = "y"
	case 2:
		v.B = true
	case 3:
		v.F = 2
	}
	return v
}

// noContents are contents that may not be.
func noContents() []api.Content {
	l := []api.Content{{Kind: 3}, {Kind: -1}, {Kind: math.MaxInt}, {Kind: math.MinInt}, {Kind: api.Plain}, {Kind: api.Formula}, {V: num(1).V}, {V: text("x").V}, {F: tree("1")}, {F: api.Node{X: minus}},
		{Kind: api.Plain, V: num(1).V, F: tree("1")}, {Kind: api.Plain, V: text("5").V, F: api.Node{S: "x"}}, {Kind: api.Formula, V: num(1).V, F: tree("A1")}}
	for _, v := range noValues() {
		l = append(l, api.Content{Kind: api.Plain, V: v})
	}
	one, here := tree("1"), tree("SUM(A1:B2)").Args[0]
	many := make([]api.Node, api.MaxNodes)
	for i := range many {
		many[i] = one
	}
	deep := one
	for range api.MaxDeep {
		deep = api.Node{Kind: api.NodeUnary, Op: api.OpMinus, Args: []api.Node{deep}}
	}
	// A node that stands within itself, so that it never ends.
	endless := api.Node{Kind: api.NodeCall, S: "SUM", Args: make([]api.Node, 2)}
	endless.Args[0], endless.Args[1] = endless, endless
	for _, n := range []api.Node{
		{Kind: -1}, {Kind: 10}, {Kind: api.NodeNumber, X: -1}, {Kind: api.NodeNumber, X: minus}, {Kind: api.NodeNumber, X: math.NaN()}, {Kind: api.NodeText, S: "\xff"}, {Kind: api.NodeFault},
		{Kind: api.NodeRef}, {Kind: api.NodeRef, Ref: api.Ref{Addr: xy(257, 1)}}, here, {Kind: api.NodeCall, S: "SUM"}, {Kind: api.NodeCall, S: "sum", Args: []api.Node{one}}, {Kind: api.NodeCall, S: "FOO", Args: []api.Node{one}},
		{Kind: api.NodeCall, S: "SUM", Args: many}, deep, endless,
	} {
		l = append(l, api.Content{Kind: api.Formula, F: n})
	}
	return l
}

// noFormats are formats that may not be.
func noFormats() []api.Format {
	return []api.Format{{}, {Kind: -1}, {Kind: 6}, {Kind: math.MaxInt}, {Kind: api.General, Places: -1}, {Kind: api.General, Places: 31}, {Kind: api.General, Group: true}, {Kind: api.General, Width: -1}, {Kind: api.General, Width: 65},
		{Kind: api.Fixed, Places: 31}, {Kind: api.Scientific, Places: 2, Group: true}, {Kind: api.Fraction}, {Kind: api.Fraction, Places: 4}, {Kind: api.Percent, Places: -1}}
}

// long is a formula whose text has so many bytes, 4000 to 4100, joined of two texts of quotes, each of which is written twice.
func long(size int) api.Content {
	one := strings.Repeat(`"`, 1024)
	rest := size - 5 - 2048
	two := strings.Repeat(`"`, rest-1024) + strings.Repeat("x", 2048-rest)
	if len(two) != 1024 || rest < 1024 || rest > 2048 {
		panic("no such size")
	}
	n := api.Node{Kind: api.NodeBinary, Op: api.OpJoin, Args: []api.Node{{Kind: api.NodeText, S: one}, {Kind: api.NodeText, S: two}}}
	return api.Content{Kind: api.Formula, F: n}
}
