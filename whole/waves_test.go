package whole_test

import (
	"fmt"
	"strings"
	"testing"

	"quadrille/api"
	"quadrille/grid"
	"quadrille/whole"
)

// P19.4: Waves, Circles, Same.

func waves(t *testing.T, g *grid.Grid, want ...string) {
	t.Helper()
	l, err := whole.Waves(g)
	if err != api.OK || len(l) != len(want) {
		t.Errorf("P19.4: %d waves, error %d, not %q", len(l), err, want)
		return
	}
	for i := range l {
		sameCells(t, fmt.Sprint("P19.4: wave ", i+1), l[i], cells(want[i]))
	}
}

func TestWaves(t *testing.T) {
	waves(t, example(t), "A2 B2", "A3", "B1")
	waves(t, gridOf(t, "A1", 1.0, "B1", "x"))
	waves(t, gridOf(t, "A1", "=1"), "A1")
	// Of formulas that use plain and empty ones alone all are of the first wave, by row, then by column.
	waves(t, gridOf(t, "C1", "=D1", "A3", "=SUM(D1:D9)", "B2", "=D2", "A1", "=D1", "D2", 1.0, "A2", "=E9"), "A1 C1 A2 B2 A3")
	// Chains, each way.
	waves(t, gridOf(t, "A1", "=1", "B1", "=A1", "C1", "=B1", "D1", "=C1"), "A1", "B1", "C1", "D1")
	waves(t, gridOf(t, "A1", "=B1", "B1", "=C1", "C1", "=D1", "D1", "=1"), "D1", "C1", "B1", "A1")
	// The greatest wave of what it uses counts, be it named first or last.
	waves(t, gridOf(t, "A1", "=1", "A2", "=A1", "A3", "=A2", "B1", "=A1+A3+A2", "B2", "=A3+A1", "B3", "=SUM(A1:A2)", "B4", "=A1"), "A1", "A2 B4", "A3 B3", "B1 B2")
	// A plain one between ends a way.
	waves(t, gridOf(t, "A1", "=1", "A2", 5.0, "A3", "=A2", "A4", "=SUM(A1:A3)"), "A1 A3", "A4")
	// Areas, up to the corners of all, and cells beside them.
	waves(t, gridOf(t, "IV4096", "=1", "A1", "=SUM(B1:IV4096)", "B1", "=2", "C7", "=SUM(B1:B1,IU4096:IV4096)"), "B1 IV4096", "C7", "A1")
	waves(t, gridOf(t, "B2", "=1", "A1", "=SUM(A2:A9)", "C2", "=SUM(B1:B1,A2:A3,C3:D4,B3:B3)", "D2", "=SUM(B2:B2)"), "A1 B2 C2", "D2")
	// A cell that is named twice counts once.
	waves(t, gridOf(t, "A1", "=1", "B1", "=A1+A1+SUM(A1:A1,A1:A2,A1)"), "A1", "B1")
}

func TestCircles(t *testing.T) {
	for _, c := range []struct {
		grid []any
		want string
	}{
		// A cell that uses itself; one that is in its own area, in whichever corner of it.
		{[]any{"A1", "=A1"}, "A1"},
		{[]any{"B2", "=SUM(A1:C3)"}, "B2"},
		{[]any{"A1", "=SUM(A1:C3)"}, "A1"},
		{[]any{"C3", "=SUM(A1:C3)"}, "C3"},
		{[]any{"IV4096", "=SUM(A1:IV4096)"}, "IV4096"},
		{[]any{"B2", "=IF(TRUE,1,B2)"}, "B2"},
		// Two and more cells.
		{[]any{"A1", "=B1", "B1", "=A1"}, "A1 B1"},
		{[]any{"C1", "=A2", "A2", "=B1", "B1", "=C1"}, "B1 C1 A2"},
		// What hangs on a circle is in none; nor is what a circle hangs on.
		{[]any{"A1", "=A1", "A2", "=A1", "A3", "=A2"}, "A1"},
		{[]any{"A1", "=B1", "B1", "=C1", "C1", "=B1"}, "B1 C1"},
		{[]any{"A1", "=B1+D1", "B1", "=A1", "D1", "=E1", "E1", "=1"}, "A1 B1"},
		// Several, beside, behind and in one another; between two a cell that is in none.
		{[]any{"A1", "=A1", "B1", "=B1", "C1", "=1"}, "A1 B1"},
		{[]any{"A1", "=B1", "B1", "=A1", "C1", "=B1", "D1", "=C1+E1", "E1", "=D1"}, "A1 B1 D1 E1"},
		{[]any{"D1", "=C1", "E1", "=D1+F1", "F1", "=E1", "A1", "=B1", "B1", "=A1", "C1", "=B1"}, "A1 B1 E1 F1"},
		{[]any{"A1", "=B1", "B1", "=C1+D1", "C1", "=A1", "D1", "=B1", "E1", "=E1+A1"}, "A1 B1 C1 D1 E1"},
		{[]any{"A1", "=B1+C1", "B1", "=D1", "C1", "=D1", "D1", "=A1", "E1", "=B1"}, "A1 B1 C1 D1"},
		// A cell that uses itself within a greater one, and one that hangs on that.
		{[]any{"A1", "=A1+B1", "B1", "=A1", "C1", "=C1+A1", "D1", "=C1"}, "A1 B1 C1"},
		// Through an area.
		{[]any{"A1", "=SUM(B1:C9)", "C5", "=D1", "D1", "=A1", "B2", "=1"}, "A1 D1 C5"},
		{[]any{"A1", "=SUM(B1:C9)", "C5", "=SUM(D1:E1)", "E1", "=MAX(A1:A9)", "A9", "=C5"}, "A1 E1 C5 A9"},
		// Plain ones and empty ones end a way.
		{[]any{"A1", "=B1", "B1", 1.0, "C1", "=C1"}, "C1"},
	} {
		refused(t, fmt.Sprint(c.grid), gridOf(t, c.grid...), cells(c.want))
		// Put the other way round they tell the same.
		var back []any
		for i := len(c.grid) - 2; i >= 0; i -= 2 {
			back = append(back, c.grid[i:i+2]...)
		}
		refused(t, fmt.Sprint(back), gridOf(t, back...), cells(c.want))
	}
	for _, list := range [][]any{
		{"A1", "=B1", "B1", 1.0, "C1", "=A1"},
		{"A1", "=B1+B1", "B1", "=C1+C1", "C1", "=D1"},
		{"A1", "=B1+C1", "B1", "=D1", "C1", "=D1", "D1", "=1"},
		{"A1", "=SUM(B1:IV1,A2:IV4096)", "IV4096", "=SUM(B1:IV4095)", "C3", "=D1"},
	} {
		g := gridOf(t, list...)
		sameCells(t, fmt.Sprint("P19.4: Circles of ", list), whole.Circles(g), nil)
		allAlike(t, fmt.Sprint(list), g, told(modelOf(g).cells()))
	}
}

func TestExampleWithCircles(t *testing.T) {
	g := example(t)
	sameCells(t, "P19.4: Circles of the example", whole.Circles(g), nil)
	put(t, g, cell("A1"), fx("B1"))
	refused(t, "the example with A1 as =B1", g, cells("A1 B1 A2 A3"))
	put(t, g, cell("A1"), fx("A1"))
	refused(t, "the example with A1 as =A1", g, cells("A1"))
	put(t, g, cell("A1"), plain(val(2.0)))
	sameTold(t, "P19.1: the example again", told(mustCalc(t, g)), told(mustCalc(t, example(t))))
}

// TestCirclesOfMany: as many cells as may be, in one circle, in pairs, each alone, each with all; and a tail that hangs on them.
func TestCirclesOfMany(t *testing.T) {
	one, pairs, alone, all, tail := grid.New(), grid.New(), grid.New(), grid.New(), grid.New()
	var each, head []api.Addr
	for row := 1; row <= 4096; row++ {
		at := xy(1, row)
		each = append(each, at)
		put(t, one, at, fx(fmt.Sprintf("A%d", 1+row%4096)))
		put(t, pairs, at, fx(fmt.Sprintf("A%d", (row-1)^1+1)))
		put(t, alone, at, fx(fmt.Sprintf("A%d+1", row)))
		put(t, all, at, fx("SUM(A1:A4096)"))
		next := row + 1
		if row == 2000 {
			next = 1
			head = each[:2000:2000]
		}
		put(t, tail, at, fx(fmt.Sprintf("A%d+A%d", min(next, 4096), max(row-1, 1))))
	}
	refused(t, "one circle of all", one, each)
	refused(t, "pairs", pairs, each)
	refused(t, "each alone", alone, each)
	refused(t, "each with all", all, each)
	// Each of them uses its neighbours: all hang on themselves.
	refused(t, "a chain both ways", tail, each)
	// A chain that hangs on a circle of its first half.
	for row := 2001; row <= 4096; row++ {
		put(t, tail, xy(1, row), fx(fmt.Sprintf("A%d", row-1)))
	}
	put(t, tail, cell("A2000"), fx("A1"))
	refused(t, "a circle and a tail", tail, head)
	put(t, tail, cell("A2000"), fx("1"))
	for row := 2; row <= 1999; row++ {
		put(t, tail, xy(1, row), fx(fmt.Sprintf("A%d", row+1)))
	}
	put(t, tail, cell("A1"), fx("A2"))
	sameCells(t, "P19.4: Circles of none", whole.Circles(tail), nil)
}

func TestSame(t *testing.T) {
	at := func(text string, v api.Value) api.Cell { return api.Cell{At: cell(text), V: v} }
	list := []api.Cell{at("A1", val(1.0)), at("B1", val("x")), at("C1", val(true)), at("D1", val(api.FaultDiv)), at("E1", api.Value{}), at("F1", val(minus)), at("G1", val(nans()[0]))}
	again := func() []api.Cell { return append([]api.Cell{}, list...) }
	if !whole.Same(list, again()) || !whole.Same(nil, nil) || !whole.Same(nil, []api.Cell{}) || !whole.Same([]api.Cell{}, nil) {
		t.Error("P19.4: Same of the same")
	}
	for i := range list {
		if whole.Same(list, list[:i]) || whole.Same(list[:i], list) || whole.Same(list, list[i+1:]) || whole.Same(list[i:], nil) || whole.Same(nil, list[i:]) {
			t.Errorf("P19.4: Same of lists of unlike lengths: %d", i)
		}
		for _, other := range []api.Addr{xy(list[i].At.Col, 2), xy(list[i].At.Col+1, 1), {}, xy(-1, 1)} {
			l := again()
			l[i].At = other
			if whole.Same(list, l) || whole.Same(l, list) {
				t.Errorf("P19.4: Same of cells that stand elsewhere: %d, %v", i, other)
			}
		}
		for _, v := range []api.Value{val(2.0), val(0.0), val("y"), val(""), val(false), val(api.FaultNum), {Kind: 7}, {Kind: -1}} {
			l := again()
			l[i].V = v
			if whole.Same(list, l) || whole.Same(l, list) {
				t.Errorf("P19.4: Same of cells that show something else: %d, %s", i, toldValue(v))
			}
		}
		// Whatever their contents are.
		for _, c := range []api.Content{plain(val(7.0)), fx("A1+1"), {Kind: 9, V: val("no content")}} {
			l := again()
			l[i].C = c
			if !whole.Same(list, l) || !whole.Same(l, list) {
				t.Errorf("P19.4: Same hangs on the contents: %d", i)
			}
		}
		// Twice in a list, and in another order.
		l := append(again(), list[i])
		if whole.Same(list, l) || i > 0 && whole.Same(append([]api.Cell{list[i]}, list[:i]...), list[:i+1]) {
			t.Errorf("P19.4: Same of other lists: %d", i)
		}
	}
	for _, x := range nans() {
		for _, y := range nans() {
			if !whole.Same([]api.Cell{at("A1", val(x))}, []api.Cell{at("A1", val(y))}) {
				t.Errorf("P19.4: two NaNs are not the Same: %x, %x", x, y)
			}
		}
		if whole.Same([]api.Cell{at("A1", val(x))}, []api.Cell{at("A1", val(1.0))}) {
			t.Error("P19.4: Same of a NaN and a number")
		}
	}
	if whole.Same([]api.Cell{at("A1", val(minus))}, []api.Cell{at("A1", val(0.0))}) {
		t.Error("P19.4: Same of both noughts")
	}
	// Fields that don't count, of values that may not be.
	if !whole.Same([]api.Cell{{V: api.Value{Kind: api.Number, X: 1, S: "x"}}}, []api.Cell{{V: api.Value{Kind: api.Number, X: 1, F: 7}}}) {
		t.Error("P19.4: Same hangs on fields that don't count")
	}
	if !whole.Same([]api.Cell{{V: api.Value{Kind: 9, X: 1}}}, []api.Cell{{V: api.Value{Kind: 9, X: 2}}}) {
		t.Error("P19.4: Same of values of no kind")
	}
	far := strings.Repeat("x", 5000)
	if !whole.Same([]api.Cell{{V: val(far)}}, []api.Cell{{V: val(far)}}) || whole.Same([]api.Cell{{V: val(far)}}, []api.Cell{{V: val(far + "x")}}) {
		t.Error("P19.4: Same of long texts")
	}
}
