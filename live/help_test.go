package live_test

import (
	"fmt"
	"math"
	"slices"
	"strings"
	"testing"

	"quadrille/addr"
	"quadrille/api"
	"quadrille/formula"
	"quadrille/grid"
	"quadrille/live"
	"quadrille/whole"
)

const theNaN = 0x7ff8 << 48

var (
	minus = math.Copysign(0, -1)
	inf   = math.Inf(1)
)

// nans are floats that are no numbers of mathematics, of several kinds.
func nans() []float64 {
	var l []float64
	for _, bits := range []uint64{theNaN, 0xfff8 << 48, 0x7ff<<52 | 1, 0xfff<<52 | 1, math.MaxUint64, 0x7ff8<<48 | 1} {
		l = append(l, math.Float64frombits(bits))
	}
	return l
}

func xy(col, row int) api.Addr { return api.Addr{Col: col, Row: row} }

// cells are the cells of texts with blanks between.
func cells(texts string) []api.Addr {
	var l []api.Addr
	for _, text := range strings.Fields(texts) {
		r, err := addr.Parse(text)
		if err != api.OK {
			panic("no cell: " + text)
		}
		l = append(l, r.Addr)
	}
	return l
}

func cell(text string) api.Addr { return cells(text)[0] }

// noCells are addresses of no cell.
func noCells() []api.Addr {
	l := []api.Addr{{}, xy(257, 4096), xy(256, 4097), xy(257, 4097), xy(4096, 256)}
	for _, n := range []int{math.MinInt, -4096, -256, -1, 0, 4097, 1 << 16, 1<<32 + 1, math.MaxInt} {
		l = append(l, xy(n, 1), xy(1, n), xy(n, n), xy(256, n), xy(n, 4096))
	}
	return l
}

func name(at api.Addr) string {
	text, err := addr.Text(api.Ref{Addr: at})
	if err != api.OK {
		return fmt.Sprint(at)
	}
	return text
}

func names(l []api.Addr) string {
	var texts []string
	for _, at := range l {
		texts = append(texts, name(at))
	}
	return short(strings.Join(texts, " "))
}

func short(s string) string {
	if len(s) > 300 {
		return s[:300] + ".."
	}
	return s
}

// val is a value; an int is a fault.
func val(x any) api.Value {
	switch x := x.(type) {
	case nil:
		return api.Value{}
	case float64:
		return api.Value{Kind: api.Number, X: x}
	case string:
		return api.Value{Kind: api.Text, S: x}
	case bool:
		return api.Value{Kind: api.Truth, B: x}
	case int:
		return api.Value{Kind: api.Fault, F: x}
	}
	panic("no value")
}

// fx is the content of a formula's text.
func fx(text string) api.Content {
	n, bad := formula.Parse(text)
	if bad != (api.Mishap{}) {
		panic("no formula: " + text)
	}
	return api.Content{Kind: api.Formula, F: n}
}

// content is that of a value, of a text that begins with = its formula, of nil the empty one.
func content(x any) api.Content {
	switch x := x.(type) {
	case nil:
		return api.Content{}
	case api.Content:
		return x
	case string:
		if strings.HasPrefix(x, "=") {
			return fx(x[1:])
		}
	}
	return api.Content{Kind: api.Plain, V: val(x)}
}

// puts are a batch: a cell, what is put there, and so on.
func puts(list ...any) []api.Put {
	var l []api.Put
	for i := 0; i < len(list); i += 2 {
		at, is := list[i].(api.Addr)
		if !is {
			at = cell(list[i].(string))
		}
		l = append(l, api.Put{At: at, C: content(list[i+1])})
	}
	return l
}

// set sets a batch that is taken.
func set(t testing.TB, s *live.Sheet, list ...any) {
	t.Helper()
	taken(t, s, puts(list...))
}

func taken(t testing.TB, s *live.Sheet, batch []api.Put) {
	t.Helper()
	if n, err := s.Set(batch...); n != 0 || err != api.OK {
		t.Fatalf("P20.1: Set of %d puts: %d, error %d", len(batch), n, err)
	}
}

// refused sets a batch that is refused: nothing has changed.
func refused(t testing.TB, about string, s *live.Sheet, batch []api.Put, number int, want api.Errno) {
	t.Helper()
	was := toldSheet(s)
	if n, err := s.Set(batch...); n != number || err != want {
		t.Errorf("P20.1: %s: %d, error %d, not %d, error %d", about, n, err, number, want)
	}
	sameTold(t, "P20.1: "+about+": the sheet behind it", toldSheet(s), was)
}

// sheetOf is a sheet of one batch after the other, each of at most MaxBatch puts.
func sheetOf(t testing.TB, list ...any) *live.Sheet {
	t.Helper()
	s := live.New()
	for batch := range slices.Chunk(puts(list...), api.MaxBatch) {
		taken(t, s, batch)
	}
	return s
}

// toldValue is all that a value has, bit by bit.
func toldValue(v api.Value) string {
	return fmt.Sprintf("%d/%x/%q/%v/%d", v.Kind, math.Float64bits(v.X), v.S, v.B, v.F)
}

func toldNode(n api.Node) string {
	var b strings.Builder
	fmt.Fprintf(&b, "%d/%d/%x/%q/%v/%d/%v/%v(", n.Kind, n.Op, math.Float64bits(n.X), n.S, n.B, n.F, n.Ref, n.To)
	for _, a := range n.Args {
		b.WriteString(toldNode(a))
	}
	return b.String() + ")"
}

func toldContent(c api.Content) string {
	return fmt.Sprintf("%d %s %s", c.Kind, toldValue(c.V), toldNode(c.F))
}

// toldCells is all that cells have, bit by bit.
func toldCells(l []api.Cell) string {
	var b strings.Builder
	for _, c := range l {
		fmt.Fprintf(&b, "%s: %s => %s\n", name(c.At), toldContent(c.C), toldValue(c.V))
	}
	return b.String()
}

// toldSheet is all that a sheet tells, bit by bit: of each cell that is not empty, and of some beside these, what its calls tell.
func toldSheet(s *live.Sheet) string {
	var b strings.Builder
	b.WriteString(toldCells(s.Cells()))
	l, err := whole.Calc(s.Grid())
	fmt.Fprintf(&b, "its grid, error %d:\n%s", err, toldCells(l))
	for _, c := range l {
		for _, at := range []api.Addr{c.At, xy(c.At.Col+1, c.At.Row), xy(c.At.Col, c.At.Row+1)} {
			fmt.Fprintf(&b, "%s: %s => %s", name(at), toldContent(s.Content(at)), toldValue(s.Value(at)))
			if len(l) < 200 {
				fmt.Fprintf(&b, ", used by %s", names(s.Users(at)))
			}
			b.WriteByte('\n')
		}
	}
	fmt.Fprintf(&b, "worked: %v\nchanged: %v\n", s.Worked(), s.Changed())
	return b.String()
}

func sameTold(t testing.TB, about, got, want string) {
	t.Helper()
	if got == want {
		return
	}
	a, b := strings.Split(got, "\n"), strings.Split(want, "\n")
	for i := range min(len(a), len(b)) {
		if a[i] != b[i] {
			t.Errorf("%s: line %d of %d is %s, not %s", about, i, len(a), short(a[i]), short(b[i]))
			return
		}
	}
	t.Errorf("%s: %d lines, not %d", about, len(a), len(b))
}

func sameCells(t testing.TB, about string, got, want []api.Addr) {
	t.Helper()
	if !slices.Equal(got, want) {
		t.Errorf("%s: %s, not %s", about, names(got), names(want))
	}
}

// shows holds what a cell shows against a value.
func shows(t testing.TB, s *live.Sheet, at string, want any) {
	t.Helper()
	if got := s.Value(cell(at)); toldValue(got) != toldValue(val(want)) {
		t.Errorf("P20.2: %s shows %s, not %s", at, toldValue(got), toldValue(val(want)))
	}
}

// did holds Worked and Changed against cells.
func did(t testing.TB, s *live.Sheet, worked, changed string) {
	t.Helper()
	sameCells(t, "P20.3: Worked", s.Worked(), cells(worked))
	sameCells(t, "P20.3: Changed", s.Changed(), cells(changed))
}

// isWhole holds what a sheet shows against what its grid does, worked out at once.
func isWhole(t testing.TB, about string, s *live.Sheet) {
	t.Helper()
	l, err := whole.Calc(s.Grid())
	if err != api.OK {
		t.Fatalf("Q3: %s: Calc of the grid: error %d", about, err)
	}
	sameTold(t, "P20.5: "+about, toldCells(s.Cells()), toldCells(l))
	for _, c := range l {
		if v := s.Value(c.At); toldValue(v) != toldValue(c.V) {
			t.Errorf("P20.5: %s: %s shows %s, not %s", about, name(c.At), toldValue(v), toldValue(c.V))
		}
	}
}

// full is a sheet with a content in each of so many cells, row by row over all columns.
func full(t testing.TB, count int, c func(i int) any) *live.Sheet {
	t.Helper()
	var list []any
	for i := range count {
		list = append(list, place(i), c(i))
	}
	return sheetOf(t, list...)
}

// place is the cell of a number, counted row by row over all columns.
func place(i int) api.Addr { return xy(1+i%api.MaxCol, 1+i/api.MaxCol) }

func gridOf(t testing.TB, list ...any) *grid.Grid {
	t.Helper()
	g := grid.New()
	for _, p := range puts(list...) {
		if err := g.Put(p.At, p.C); err != api.OK {
			t.Fatalf("Put(%s): %d", name(p.At), err)
		}
	}
	return g
}
