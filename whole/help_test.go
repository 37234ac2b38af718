package whole_test

import (
	"fmt"
	"math"
	"slices"
	"strings"
	"testing"

	"quadrille/addr"
	"quadrille/api"
	"quadrille/formula"
	"quadrille/grid"
	"quadrille/whole"
)

const theNaN = 0x7ff8 << 48

var (
	minus = math.Copysign(0, -1)
	inf   = math.Inf(1)
)

// nans are floats that are no numbers of mathematics, of several kinds.
func nans() []float64 {
	var l []float64
	for _, bits := range []uint64{theNaN, 0xfff8 << 48, 0x7ff<<52 | 1, 0xfff<<52 | 1, math.MaxUint64, 0x7ff8<<48 | 1} {
		l = append(l, math.Float64frombits(bits))
	}
	return l
}

func xy(col, row int) api.Addr { return api.Addr{Col: col, Row: row} }

// cells are the cells of texts with blanks between.
func cells(texts string) []api.Addr {
	var l []api.Addr
	for _, text := range strings.Fields(texts) {
		r, err := addr.Parse(text)
		if err != api.OK {
			panic("no cell: " + text)
		}
		l = append(l, r.Addr)
	}
	return l
}

func cell(text string) api.Addr { return cells(text)[0] }

func name(at api.Addr) string {
	text, err := addr.Text(api.Ref{Addr: at})
	if err != api.OK {
		return fmt.Sprint(at)
	}
	return text
}

func names(l []api.Addr) string {
	var texts []string
	for _, at := range l {
		texts = append(texts, name(at))
	}
	return short(strings.Join(texts, " "))
}

func short(s string) string {
	if len(s) > 300 {
		return s[:300] + ".."
	}
	return s
}

// val is a value; an int is a fault.
func val(x any) api.Value {
	switch x := x.(type) {
	case float64:
		return api.Value{Kind: api.Number, X: x}
	case string:
		return api.Value{Kind: api.Text, S: x}
	case bool:
		return api.Value{Kind: api.Truth, B: x}
	case int:
		return api.Value{Kind: api.Fault, F: x}
	}
	panic("no value")
}

func plain(v api.Value) api.Content { return api.Content{Kind: api.Plain, V: v} }

// fx is the content of a formula's text.
func fx(text string) api.Content {
	n, bad := formula.Parse(text)
	if bad != (api.Mishap{}) {
		panic("no formula: " + text)
	}
	return api.Content{Kind: api.Formula, F: n}
}

// content is that of a value, or of a text that begins with = its formula.
func content(x any) api.Content {
	switch x := x.(type) {
	case nil:
		return api.Content{}
	case api.Value:
		return plain(x)
	case string:
		if strings.HasPrefix(x, "=") {
			return fx(x[1:])
		}
	}
	return plain(val(x))
}

func put(t testing.TB, g *grid.Grid, at api.Addr, c api.Content) {
	t.Helper()
	if err := g.Put(at, c); err != api.OK {
		t.Fatalf("Put(%s): %d", name(at), err)
	}
}

// gridOf has contents by cells' texts: a cell, what it has, and so on.
func gridOf(t testing.TB, list ...any) *grid.Grid {
	t.Helper()
	g := grid.New()
	for i := 0; i < len(list); i += 2 {
		put(t, g, cell(list[i].(string)), content(list[i+1]))
	}
	return g
}

// example is the chapter's.
func example(t testing.TB) *grid.Grid {
	t.Helper()
	return gridOf(t, "A1", 2.0, "A2", "=A1*3", "A3", "=SUM(A1:A2)", "B1", `=A3&"!"`, "B2", "=1/0")
}

// toldValue is all that a value has, bit by bit.
func toldValue(v api.Value) string {
	return fmt.Sprintf("%d/%x/%q/%v/%d", v.Kind, math.Float64bits(v.X), v.S, v.B, v.F)
}

func toldNode(n api.Node) string {
	var b strings.Builder
	fmt.Fprintf(&b, "%d/%d/%x/%q/%v/%d/%v/%v(", n.Kind, n.Op, math.Float64bits(n.X), n.S, n.B, n.F, n.Ref, n.To)
	for _, a := range n.Args {
		b.WriteString(toldNode(a))
	}
	return b.String() + ")"
}

func toldContent(c api.Content) string {
	return fmt.Sprintf("%d %s %s", c.Kind, toldValue(c.V), toldNode(c.F))
}

// told is all that cells have, bit by bit.
func told(l []api.Cell) string {
	var b strings.Builder
	for _, c := range l {
		fmt.Fprintf(&b, "%s: %s => %s\n", name(c.At), toldContent(c.C), toldValue(c.V))
	}
	return b.String()
}

// toldGrid is all that a grid has, bit by bit.
func toldGrid(g *grid.Grid) string {
	var b strings.Builder
	for at, c := range g.All() {
		fmt.Fprintf(&b, "%s: %s\n", name(at), toldContent(c))
	}
	return b.String()
}

func sameTold(t testing.TB, about, got, want string) {
	t.Helper()
	if got == want {
		return
	}
	a, b := strings.Split(got, "\n"), strings.Split(want, "\n")
	for i := range min(len(a), len(b)) {
		if a[i] != b[i] {
			t.Errorf("%s: line %d of %d is %s, not %s", about, i, len(a), short(a[i]), short(b[i]))
			return
		}
	}
	t.Errorf("%s: %d lines, not %d", about, len(a), len(b))
}

func sameCells(t testing.TB, about string, got, want []api.Addr) {
	t.Helper()
	if !slices.Equal(got, want) {
		t.Errorf("%s: %s, not %s", about, names(got), names(want))
	}
}

// places are where cells stand.
func places(l []api.Cell) []api.Addr {
	var at []api.Addr
	for _, c := range l {
		at = append(at, c.At)
	}
	return at
}

func mustCalc(t testing.TB, g *grid.Grid) []api.Cell {
	t.Helper()
	l, err := whole.Calc(g)
	if err != api.OK {
		t.Fatalf("P19.1: Calc: error %d", err)
	}
	return l
}

// inOrder are cells as they stand in order.
func inOrder(l []api.Cell) []api.Cell {
	l = slices.Clone(l)
	slices.SortFunc(l, func(a, b api.Cell) int { return standing(a.At, b.At) })
	return l
}

// allAlike holds Calc, By by some picks and Free by some workers against what Calc has to answer.
func allAlike(t testing.TB, about string, g *grid.Grid, want string) {
	t.Helper()
	was := toldGrid(g)
	l, err := whole.Calc(g)
	if err != api.OK {
		t.Errorf("P19.1: %s: Calc: error %d", about, err)
	}
	sameTold(t, "P19.1: "+about+": Calc", told(l), want)
	for _, picks := range [][]int{nil, {-1, -1, -1}, {3, math.MinInt, math.MaxInt, 7}} {
		l, err := whole.By(g, picks)
		if err != api.OK {
			t.Errorf("P19.2: %s: By: error %d", about, err)
		}
		sameTold(t, "P19.2: "+about+": By", told(inOrder(l)), want)
	}
	for _, workers := range []int{1, 3, 64} {
		l, err := whole.Free(g, workers)
		if err != api.OK {
			t.Errorf("P19.3: %s: Free by %d: error %d", about, workers, err)
		}
		sameTold(t, "P19.3: "+about+": Free", told(l), want)
	}
	sameTold(t, "R3: "+about+": the grid behind it", toldGrid(g), was)
}

// refused holds all calls against ErrCycle and against what Circles has to answer.
func refused(t testing.TB, about string, g *grid.Grid, circles []api.Addr) {
	t.Helper()
	if l, err := whole.Calc(g); err != api.ErrCycle || len(l) > 0 {
		t.Errorf("P19.1: %s: Calc: %d cells, error %d", about, len(l), err)
	}
	if l, err := whole.By(g, []int{-1, 5}); err != api.ErrCycle || len(l) > 0 {
		t.Errorf("P19.2: %s: By: %d cells, error %d", about, len(l), err)
	}
	for _, workers := range []int{1, 5, 64} {
		if l, err := whole.Free(g, workers); err != api.ErrCycle || len(l) > 0 {
			t.Errorf("P19.3: %s: Free: %d cells, error %d", about, len(l), err)
		}
	}
	if l, err := whole.Waves(g); err != api.ErrCycle || len(l) > 0 {
		t.Errorf("P19.4: %s: Waves: %d, error %d", about, len(l), err)
	}
	sameCells(t, "P19.4: "+about+": Circles", whole.Circles(g), circles)
}
