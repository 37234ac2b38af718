package edits_test

import (
	"fmt"
	"testing"

	"quadrille/api"
	"quadrille/edits"
	"quadrille/grid"
	"quadrille/live"
)

// P21.3: Sheet, Value, Last.

// lastIs holds Last against puts.
func lastIs(t *testing.T, about string, b *edits.Book, list ...any) {
	t.Helper()
	sameTold(t, "P21.3: "+about+": Last", toldPuts(b.Last()), toldPuts(puts(list...)))
}

// TestLast: behind no step, and behind steps of every sort.
func TestLast(t *testing.T) {
	b := edits.New()
	lastIs(t, "no step", b)
	do(t, b)
	lastIs(t, "a batch without puts", b)
	do(t, b, "B2", 1.0, "A1", "=B2", "C1", "x")
	lastIs(t, "a step that puts", b, "A1", nil, "C1", nil, "B2", nil)
	do(t, b, "C1", nil, "A1", nil)
	lastIs(t, "a step that empties", b, "A1", "=B2", "C1", "x")
	do(t, b, "B2", minus)
	lastIs(t, "a step that changes", b, "B2", 1.0)
	do(t, b, "B2", 0.0)
	lastIs(t, "a step that changes a nought's sign", b, "B2", minus)
	do(t, b, "B2", "=$A$1", "D4", "=SUM(A1:B1)")
	lastIs(t, "a step that changes and puts", b, "B2", 0.0, "D4", nil)
	do(t, b, "D4", "=SUM(A1:B1)", "B2", "=A$1", "E5", nil)
	lastIs(t, "a step that puts also what is there", b, "B2", "=$A$1")
	do(t, b, "D4", "=SUM(A1:B1)")
	lastIs(t, "what is no step", b, "B2", "=$A$1")
	b.Do(puts("A1", 5.0, "D4", "=D4")...)
	lastIs(t, "what is refused", b, "B2", "=$A$1")
	is(t, "Become", b.Become(gridOf("A1", 1.0, "D4", "=SUM(A1:B1)", "B3", nans()[4])), api.OK)
	lastIs(t, "Become", b, "A1", nil, "B2", "=A$1", "B3", nil)
	is(t, "Become", b.Become(grid.New()), api.OK)
	lastIs(t, "Become of no cell", b, "A1", 1.0, "B3", nans()[0], "D4", "=SUM(A1:B1)")
	is(t, "Become", b.Become(nil), api.ErrArg)
	lastIs(t, "Become of nil", b, "A1", 1.0, "B3", nans()[0], "D4", "=SUM(A1:B1)")
	is(t, "Undo", b.Undo(), api.OK)
	lastIs(t, "Undo", b, "A1", nil, "B2", "=A$1", "B3", nil)
	is(t, "Undo", b.Undo(), api.OK)
	lastIs(t, "two Undos", b, "B2", "=$A$1")
	is(t, "Redo", b.Redo(), api.OK)
	lastIs(t, "Redo", b, "A1", nil, "B2", "=A$1", "B3", nil)
	for b.Undo() == api.OK {
	}
	lastIs(t, "all Undos", b)
	is(t, "Redo", b.Redo(), api.OK)
	lastIs(t, "the first Redo", b, "A1", nil, "C1", nil, "B2", nil)
}

// TestLastOfMany: it may be more than a batch.
func TestLastOfMany(t *testing.T) {
	b := edits.New()
	one := many(0, api.MaxCells, func(i int) any { return "=" + name(place(i+5000)) })
	two := many(4500, api.MaxCells, func(i int) any { return float64(i) })
	for _, batch := range [][]api.Put{one, two} {
		is(t, "Become", b.Become(gridBy(batch)), api.OK)
	}
	if l := b.Last(); len(l) != 2*api.MaxCells {
		t.Errorf("P21.3: Last of all cells gone and as many come: %d puts", len(l))
	}
	sameTold(t, "P21.3: Last leads back", toldGrid(led(gridBy(two), b.Last())), toldGrid(gridBy(one)))
	is(t, "Undo", b.Undo(), api.OK)
	sameTold(t, "P21.3: Last leads back to no cell", toldGrid(led(gridBy(one), b.Last())), "")
	is(t, "Redo", b.Redo(), api.OK)
	sameTold(t, "P21.3: Last behind Redo leads back", toldGrid(led(gridBy(two), b.Last())), toldGrid(gridBy(one)))
}

// fresh holds a book's Sheet against live.From of its contents: Worked and Changed are empty.
func fresh(t *testing.T, about string, b *edits.Book) {
	t.Helper()
	s := b.Sheet()
	if s == nil {
		t.Fatalf("P21.3: %s: no Sheet", about)
	}
	if len(s.Worked()) > 0 || len(s.Changed()) > 0 {
		t.Errorf("P21.3: %s: Worked %v, Changed %v", about, s.Worked(), s.Changed())
	}
	want, err := live.From(s.Grid())
	is(t, "Q3: "+about, err, api.OK)
	sameTold(t, "P21.3: "+about+": Sheet", toldSheet(s), toldSheet(want))
}

func TestSheet(t *testing.T) {
	b := edits.New()
	fresh(t, "a new book", b)
	do(t, b, "A1", 1.0, "A2", "=A1+1", "B1", "=SUM(A1:A9)")
	fresh(t, "Do", b)
	do(t, b, "A1", 2.0)
	fresh(t, "Do", b)
	do(t, b, "A1", 2.0)
	fresh(t, "no step", b)
	b.Do(puts("C1", 1.0, "A1", "=B1")...)
	fresh(t, "what is refused", b)
	is(t, "Undo", b.Undo(), api.OK)
	fresh(t, "Undo", b)
	is(t, "Redo", b.Redo(), api.OK)
	fresh(t, "Redo", b)
	is(t, "Become", b.Become(gridOf("A1", "=B1", "B1", 5.0)), api.OK)
	fresh(t, "Become", b)
	is(t, "Become", b.Become(gridBy(many(0, 400, func(i int) any { return float64(i) }))), api.OK)
	fresh(t, "Become of many", b)
	is(t, "Undo", b.Undo(), api.OK)
	fresh(t, "Undo of many", b)
}

// TestSheetIsItsOwn: what is done to it the book doesn't see, nor another one, nor the other way.
func TestSheetIsItsOwn(t *testing.T) {
	b := edits.New()
	do(t, b, "A1", 1.0, "A2", "=A1+1", "B1", "=SUM(A1:A9)")
	do(t, b, "A1", 2.0)
	is(t, "Undo", b.Undo(), api.OK)
	was := toldBook(b)
	one, two := b.Sheet(), b.Sheet()
	other := toldSheet(two)
	if n, err := one.Set(puts("A1", 9.0, "A2", nil, "B1", "=C1", "C1", "=D1")...); n != 0 || err != api.OK {
		t.Fatalf("a Sheet's Set: %d, error %d", n, err)
	}
	one.Set(puts("C1", "=C1")...)
	sameTold(t, "P21.3: the book, its Sheet changed", toldBook(b), was)
	sameTold(t, "P21.3: another Sheet", toldSheet(two), other)
	// It is a sheet as all others are.
	if _, err := two.Set(puts("A1", "=B1")...); err != api.ErrCycle {
		t.Errorf("P21.3: a circle on a Sheet: error %d", err)
	}
	if _, err := two.Set(puts("A1", 5.0)...); err != api.OK || fmt.Sprint(two.Worked()) != "[{2 1} {1 2}]" {
		t.Errorf("P21.3: a batch on a Sheet: error %d, Worked %v", err, two.Worked())
	}
	changed := toldSheet(one)
	for _, f := range []func(){
		func() { do(t, b, "A1", "x", "C1", 1.0) },
		func() { b.Undo() },
		func() { b.Redo() },
		func() { b.Become(gridOf("A1", 3.0)) },
		func() { b.Become(gridBy(many(0, 300, func(int) any { return "y" }))) },
		func() { b.Undo() },
	} {
		f()
		sameTold(t, "P21.3: a Sheet, the book changed", toldSheet(one), changed)
	}
}

func TestValue(t *testing.T) {
	b := edits.New()
	do(t, b, "A1", 2.0, "A2", "=A1*3", "A3", "x", "A4", true, "A5", api.FaultRef, "A6", "=A5", "A7", nans()[3], "A8", minus, "A9", "=B9", "IV4096", "=1/0", "IV1", "last", "A4096", 5e-324)
	for at, want := range map[string]any{"A1": 2.0, "A2": 6.0, "A3": "x", "A4": true, "A5": api.FaultRef, "A6": api.FaultRef, "A7": nans()[0], "A8": minus, "A9": 0.0, "IV4096": api.FaultDiv, "IV1": "last", "A4096": 5e-324, "B9": nil, "B1": nil, "IV2": nil, "IU4096": nil} {
		shows(t, b, at, want)
	}
	for _, at := range noCells() {
		if v := b.Value(at); toldValue(v) != toldValue(api.Value{}) {
			t.Errorf("P21.3: Value of %v, which is no cell: %s", at, toldValue(v))
		}
	}
	// By what the contents are, not by how they were before.
	do(t, b, "A1", nil, "B9", 4.0)
	shows(t, b, "A1", nil)
	shows(t, b, "A2", 0.0)
	shows(t, b, "A9", 4.0)
	is(t, "Undo", b.Undo(), api.OK)
	shows(t, b, "A2", 6.0)
	shows(t, b, "A9", 0.0)
	is(t, "Redo", b.Redo(), api.OK)
	shows(t, b, "A2", 0.0)
	shows(t, b, "A9", 4.0)
}
