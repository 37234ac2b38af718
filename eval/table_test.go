package eval_test

import (
	"fmt"
	"iter"
	"math"
	"slices"
	"strings"
	"testing"

	"quadrille/addr"
	"quadrille/api"
	"quadrille/eval"
)

// P16.2: a source out of cells.

// firstOf is the V of a list's first cell of an address, blank, if there is none, as P16.2 says it.
func firstOf(l []api.Cell, at api.Addr) api.Value {
	for _, c := range l {
		if c.At == at && at.Col >= 1 && at.Col <= 256 && at.Row >= 1 && at.Row <= 4096 {
			return c.V
		}
	}
	return blank
}

// eachOf are the cells of an area that a list shows, as P16.2 says it, row by row.
func eachOf(l []api.Cell, a api.Area) []api.Cell {
	var out []api.Cell
	for at := range addr.Cells(a) {
		if v := firstOf(l, at); v.Kind != 0 {
			out = append(out, api.Cell{At: at, V: v})
		}
	}
	return out
}

// gone is all that an iterator goes over.
func gone(each iter.Seq2[api.Addr, api.Value]) []api.Cell {
	var l []api.Cell
	for at, v := range each {
		l = append(l, api.Cell{At: at, V: v})
	}
	return l
}

func sameCells(a, b []api.Cell) bool {
	return slices.EqualFunc(a, b, func(x, y api.Cell) bool { return x.At == y.At && alike(x.V, y.V) })
}

func toldCells(l []api.Cell) string {
	var b strings.Builder
	for _, c := range l {
		fmt.Fprintf(&b, "%d,%d:%s ", c.At.Col, c.At.Row, told(c.V))
	}
	return b.String()
}

// checkTable asks what a Table of a list tells of cells and of areas.
func checkTable(t *testing.T, about string, l []api.Cell, table *eval.Table, areas ...api.Area) {
	t.Helper()
	for _, c := range l {
		if got, want := table.Cell(c.At), firstOf(l, c.At); !alike(got, want) {
			t.Errorf("P16.2: %s: Cell(%v) is %s, not %s", about, c.At, told(got), told(want))
		}
	}
	for _, a := range areas {
		each := table.Each(a)
		if each == nil {
			t.Fatalf("R5: %s: Each(%v) is nil", about, a)
		}
		if got, want := gone(each), eachOf(l, a); !sameCells(got, want) {
			t.Errorf("P16.2: %s: Each(%v) is %s, not %s", about, a, toldCells(got), toldCells(want))
		}
	}
}

// noAreas are areas that may not be.
func noAreas() []api.Area {
	a, b := cellAt("A1"), cellAt("IV4096")
	l := []api.Area{{}, {From: cellAt("B1"), To: a}, {From: cellAt("A2"), To: a}, {From: cellAt("B2"), To: a}, {From: cellAt("B1"), To: cellAt("A9")}, {From: cellAt("A9"), To: cellAt("B1")}, {From: b, To: a}}
	for _, at := range none() {
		l = append(l, api.Area{From: a, To: at}, api.Area{From: at, To: b}, api.Area{From: at, To: at})
	}
	return l
}

func TestTablesOfNothing(t *testing.T) {
	var nobody *eval.Table
	for about, table := range map[string]*eval.Table{"of nil": eval.Of(nil), "of an empty list": eval.Of([]api.Cell{}), "a zero Table": {}, "a nil Table": nobody} {
		if table == nil && about != "a nil Table" {
			t.Errorf("P16.2: Of %s is nil", about)
		}
		for _, at := range append(none(), cellAt("A1"), cellAt("IV4096"), cellAt("C7")) {
			if got := table.Cell(at); !alike(got, blank) {
				t.Errorf("P16.2: %s: Cell(%v) is %s", about, at, told(got))
			}
		}
		for _, a := range append(noAreas(), areaAt("A1"), areaAt("A1:IV4096")) {
			each := table.Each(a)
			if each == nil {
				t.Fatalf("R5: %s: Each(%v) is nil", about, a)
			}
			if l := gone(each); len(l) != 0 {
				t.Errorf("P16.2: %s: Each(%v) is %s", about, a, toldCells(l))
			}
		}
	}
}

func TestValuesAsTheyWereHandedIn(t *testing.T) {
	var l []api.Cell
	for i, v := range slices.Concat(good(), bad()) {
		l = append(l, api.Cell{At: api.Addr{Col: 1 + i%7, Row: 1 + i/7}, V: v})
	}
	table := eval.Of(l)
	checkTable(t, "each value", l, table, areaAt("A1:G40"), areaAt("B2:C9"), areaAt("A1:IV4096"))
	for _, c := range l {
		if got := table.Cell(c.At); !alike(got, c.V) {
			t.Errorf("P16.2: Cell is %s, not %s", told(got), told(c.V))
		}
		n := 0
		for at, v := range table.Each(api.Area{From: c.At, To: c.At}) {
			n++
			if at != c.At || !alike(v, c.V) {
				t.Errorf("P16.2: Each tells %v %s, not %v %s", at, told(v), c.At, told(c.V))
			}
		}
		want := 1
		if c.V.Kind == api.Blank {
			want = 0
		}
		if n != want {
			t.Errorf("P16.2: Each tells %d of %s", n, told(c.V))
		}
	}
}

func TestAddressesOfNoCellAreLeftOut(t *testing.T) {
	var l []api.Cell
	for i, at := range none() {
		l = append(l, api.Cell{At: at, V: val(i + 1)})
	}
	edges := []string{"A1", "IV1", "A4096", "IV4096"}
	for i, text := range edges {
		l = append(l, api.Cell{At: cellAt(text), V: val(100 + i)})
	}
	for _, at := range none() {
		l = append(l, api.Cell{At: at, V: val("behind")})
	}
	table := eval.Of(l)
	for _, at := range none() {
		if got := table.Cell(at); !alike(got, blank) {
			t.Errorf("P16.2: Cell(%v) is %s", at, told(got))
		}
	}
	for i, text := range edges {
		if got := table.Cell(cellAt(text)); !alike(got, val(100+i)) {
			t.Errorf("P16.2: Cell(%s) is %s", text, told(got))
		}
	}
	if got := gone(table.Each(areaAt("A1:IV4096"))); len(got) != 4 {
		t.Errorf("P16.2: Each of all cells: %s", toldCells(got))
	}
	checkTable(t, "limits", l, table, append(noAreas(), areaAt("A1"), areaAt("IV4096"), areaAt("A1:IV1"), areaAt("A1:A4096"), areaAt("IV2:IV4096"), areaAt("B2:IU4095"))...)
}

func TestCellsThatStandTwice(t *testing.T) {
	at, beside := cellAt("B2"), cellAt("A2")
	values := []api.Value{blank, val(1), val(2), val("x"), val(false), val(div), val(other), {X: 1}, {Kind: 9}, {Kind: 9, X: 1}}
	for _, a := range values {
		for _, b := range values {
			for _, c := range values {
				l := []api.Cell{{At: beside, V: val(7)}, {At: at, V: a}, {At: at, V: b}, {At: beside, V: val(8)}, {At: at, V: c}}
				table := eval.Of(l)
				if got := table.Cell(at); !alike(got, a) {
					t.Errorf("P16.2: of %s, %s, %s Cell is %s", told(a), told(b), told(c), told(got))
				}
				checkTable(t, "a cell twice", l, table, areaAt("B2"), areaAt("A1:C3"))
			}
		}
	}
	table := eval.Of([]api.Cell{{At: at}, {At: at, V: val(1)}})
	if got := gone(table.Each(areaAt("A1:C3"))); len(got) != 0 || !alike(table.Cell(at), blank) {
		t.Errorf("P16.2: first blank, then not: %s", toldCells(got))
	}
	var many []api.Cell
	for i := range 200 {
		many = append(many, api.Cell{At: api.Addr{Col: 1 + i%3, Row: 1 + i%2}, V: val(i)})
	}
	checkTable(t, "cells that stand often", many, eval.Of(many), areaAt("A1:C2"))
}

func TestContentsDontCount(t *testing.T) {
	n := parsed(t, "A1+1")
	l := []api.Cell{
		{At: cellAt("A1"), C: api.Content{Kind: api.Plain, V: val(9)}, V: val(1)},
		{At: cellAt("A2"), C: api.Content{Kind: api.Plain, V: val(9)}},
		{At: cellAt("A3"), C: api.Content{Kind: api.Formula, F: n}, V: val("x")},
		{At: cellAt("A4"), C: api.Content{Kind: api.Formula, F: n}},
		{At: cellAt("A5"), C: api.Content{Kind: -5, V: api.Value{Kind: 9}, F: endless()}, V: val(true)},
		{At: cellAt("A6"), V: val(absent)},
	}
	table := eval.Of(l)
	checkTable(t, "contents", l, table, areaAt("A1:A9"))
	for i, want := range []any{1, nil, "x", nil, true, absent} {
		if got := table.Cell(api.Addr{Col: 1, Row: 1 + i}); !alike(got, val(want)) {
			t.Errorf("P16.2: A%d is %s", i+1, told(got))
		}
	}
}

func TestTablesByChance(t *testing.T) {
	m := made(162)
	for range 400 {
		var l []api.Cell
		for range m.Intn(60) {
			at := api.Addr{Col: m.Intn(9), Row: m.Intn(9)}
			if m.Intn(30) == 0 {
				at = none()[m.Intn(len(none()))]
			}
			l = append(l, api.Cell{At: at, V: m.value(true)})
		}
		table := eval.Of(l)
		var areas []api.Area
		for range 12 {
			areas = append(areas, api.Area{From: api.Addr{Col: m.Intn(9), Row: m.Intn(9)}, To: api.Addr{Col: m.Intn(12), Row: m.Intn(12)}})
		}
		checkTable(t, "by chance", l, table, areas...)
		for at := range addr.Cells(areaAt("A1:J10")) {
			if got, want := table.Cell(at), firstOf(l, at); !alike(got, want) {
				t.Fatalf("P16.2: Cell(%v) is %s, not %s", at, told(got), told(want))
			}
		}
	}
}

// R5: iterators.

func someTable() (*eval.Table, []api.Cell) {
	l := sheet{"B2": 1, "D2": "x", "A3": true, "C3": div, "B4": minus, "C4": api.Value{Kind: 9}, "A5": other, "C5": nil}.cells()
	slices.Reverse(l)
	return eval.Of(l), l
}

func TestLeftEarlyAndGoneOverAgain(t *testing.T) {
	table, l := someTable()
	for _, a := range []api.Area{areaAt("A1:D9"), areaAt("B2:C4"), areaAt("A5"), areaAt("A1:IV4096")} {
		each, want := table.Each(a), eachOf(l, a)
		for stop := range len(want) + 1 {
			var got []api.Cell
			for at, v := range each {
				if len(got) == stop {
					break
				}
				got = append(got, api.Cell{At: at, V: v})
			}
			if !sameCells(got, want[:stop]) {
				t.Errorf("R5: left behind %d: %s", stop, toldCells(got))
			}
			if got := gone(each); !sameCells(got, want) {
				t.Errorf("R5: gone over again: %s, not %s", toldCells(got), toldCells(want))
			}
		}
		// What asks no more is asked no more.
		asked := 0
		each(func(api.Addr, api.Value) bool { asked++; return false })
		if asked != 1 {
			t.Errorf("R5: asked %d times", asked)
		}
	}
}

func TestTwoAtOnce(t *testing.T) {
	table, l := someTable()
	a := areaAt("A1:D9")
	want := eachOf(l, a)
	each, n := table.Each(a), 0
	for at, v := range each {
		if n >= len(want) || at != want[n].At || !alike(v, want[n].V) {
			t.Fatalf("R5: %v %s at place %d", at, told(v), n)
		}
		if got := gone(each); !sameCells(got, want) {
			t.Errorf("R5: within itself: %s", toldCells(got))
		}
		if got := gone(table.Each(areaAt("B2:C4"))); !sameCells(got, eachOf(l, areaAt("B2:C4"))) {
			t.Errorf("R5: within another one: %s", toldCells(got))
		}
		n++
	}
	next, stop := iter.Pull2(each)
	defer stop()
	again, stopAgain := iter.Pull2(each)
	defer stopAgain()
	for i, c := range want {
		at, v, ok := next()
		at2, v2, ok2 := again()
		if !ok || !ok2 || at != c.At || at2 != c.At || !alike(v, c.V) || !alike(v2, c.V) {
			t.Fatalf("R5: two at once, place %d: %v %v, %v %v", i, at, ok, at2, ok2)
		}
	}
	if _, _, ok := next(); ok {
		t.Error("R5: there is more")
	}
}

// R3: what is handed in.

func TestCellsWrittenOverBehindOf(t *testing.T) {
	_, l := someTable()
	room := append(slices.Grow(slices.Clone(l), 4), api.Cell{At: cellAt("Z1"), V: val(1)}, api.Cell{At: cellAt("Z2"), V: val(2)})
	given := room[:len(l)]
	before := toldCells(room)
	table := eval.Of(given)
	other := eval.Of(given[:3])
	if toldCells(room) != before {
		t.Fatalf("R3: Of has changed the list: %s", toldCells(room))
	}
	a := areaAt("A1:Z99")
	each := table.Each(a)
	check := func(about string) {
		t.Helper()
		checkTable(t, about, l, table, a, areaAt("B2:C4"))
		checkTable(t, about, l[:3], other, a)
		if got := gone(each); !sameCells(got, eachOf(l, a)) {
			t.Errorf("R3: %s: %s", about, toldCells(got))
		}
		if toldCells(gone(table.Each(areaAt("Z1:Z9")))) != "" {
			t.Errorf("R3: %s: spare room is told", about)
		}
	}
	check("ahead")
	for range each {
		for i := range room {
			room[i] = api.Cell{At: api.Addr{Col: 2, Row: 1 + i}, V: val("over")}
		}
		check("within a range, written over")
	}
	check("written over")
	eval.Of(room)
	check("behind another Table")
}

func TestTablesSideBySide(t *testing.T) {
	a := eval.Of([]api.Cell{{At: cellAt("A1"), V: val(1)}, {At: cellAt("B1"), V: val(2)}})
	b := eval.Of([]api.Cell{{At: cellAt("A1"), V: val("x")}, {At: cellAt("C1"), V: val(3)}})
	for range 3 {
		check(t, "P16.2", "A1", parsed(t, "A1&B1&C1"), a, val("12"))
		check(t, "P16.2", "A1", parsed(t, "A1&B1&C1"), b, val("x3"))
		check(t, "P16.2", "COUNTA", parsed(t, "JOIN(A1:C1)"), a, val("12"))
		check(t, "P16.2", "COUNTA", parsed(t, "JOIN(A1:C1)"), b, val("x3"))
	}
	for at, v := range a.Each(areaAt("A1:C1")) {
		for at2, v2 := range b.Each(areaAt("A1:C1")) {
			if !alike(v, a.Cell(at)) || !alike(v2, b.Cell(at2)) {
				t.Errorf("P16.2: %v %s beside %v %s", at, told(v), at2, told(v2))
			}
		}
	}
}

func TestCellsFarAway(t *testing.T) {
	table := eval.Of([]api.Cell{{At: cellAt("A1"), V: val(1)}, {At: cellAt("IV4096"), V: val(2)}})
	for _, far := range []int{math.MinInt, math.MinInt + 1, -256, -1, 0, 257, 4097, 1 << 16, 1<<32 + 1, math.MaxInt} {
		for _, at := range []api.Addr{{Col: far, Row: 1}, {Col: 1, Row: far}, {Col: far, Row: far}} {
			if got := table.Cell(at); !alike(got, blank) {
				t.Errorf("P16.2: Cell(%v) is %s", at, told(got))
			}
			for _, a := range []api.Area{{From: at, To: cellAt("IV4096")}, {From: cellAt("A1"), To: at}} {
				if l := gone(table.Each(a)); len(l) > 0 && !addr.ValidArea(a) {
					t.Errorf("P16.2: Each(%v) is %s", a, toldCells(l))
				}
			}
		}
	}
}
