package whole_test

import (
	"fmt"
	"math"
	"strings"
	"testing"

	"quadrille/api"
	"quadrille/grid"
	"quadrille/whole"
)

// P19.1: Calc; with it what By and Free have to answer as well.

// shown are cells as they have to be told: of each its text, what it has, what it shows.
func shown(list ...any) string {
	var l []api.Cell
	for i := 0; i < len(list); i += 3 {
		v, is := list[i+2].(api.Value)
		if !is {
			v = val(list[i+2])
		}
		l = append(l, api.Cell{At: cell(list[i].(string)), C: content(list[i+1]), V: v})
	}
	return told(l)
}

func TestExample(t *testing.T) {
	allAlike(t, "the example", example(t), shown(
		"A1", 2.0, 2.0,
		"B1", `=A3&"!"`, "8!",
		"A2", "=A1*3", 6.0,
		"B2", "=1/0", api.FaultDiv,
		"A3", "=SUM(A1:A2)", 8.0,
	))
}

func TestNoGrid(t *testing.T) {
	if l, err := whole.Calc(nil); err != api.ErrArg || len(l) > 0 {
		t.Errorf("P19.1: Calc(nil): %v, %d", l, err)
	}
	for _, picks := range [][]int{nil, {}, {1, 2}} {
		if l, err := whole.By(nil, picks); err != api.ErrArg || len(l) > 0 {
			t.Errorf("P19.2: By(nil): %v, %d", l, err)
		}
	}
	for _, workers := range []int{math.MinInt, 0, 1, 64, 65} {
		if l, err := whole.Free(nil, workers); err != api.ErrArg || len(l) > 0 {
			t.Errorf("P19.3: Free(nil, %d): %v, %d", workers, l, err)
		}
	}
	if l, err := whole.Waves(nil); err != api.ErrArg || len(l) > 0 {
		t.Errorf("P19.4: Waves(nil): %v, %d", l, err)
	}
	if l := whole.Circles(nil); len(l) > 0 {
		t.Errorf("P19.4: Circles(nil): %v", l)
	}
}

func TestNoCell(t *testing.T) {
	emptied := gridOf(t, "A1", "=B1", "B1", 7.0)
	put(t, emptied, cell("A1"), api.Content{})
	put(t, emptied, cell("B1"), api.Content{})
	for _, g := range []*grid.Grid{grid.New(), {}, emptied} {
		allAlike(t, "no cell", g, "")
		if l, err := whole.Waves(g); err != api.OK || len(l) > 0 {
			t.Errorf("P19.4: Waves of no cell: %v, %d", l, err)
		}
		sameCells(t, "P19.4: Circles of no cell", whole.Circles(g), nil)
	}
}

// TestPlain: plain contents alone, of each kind, in order by row, then by column.
func TestPlain(t *testing.T) {
	g := gridOf(t, "IV4096", 1.0, "A4096", minus, "IV1", "x", "A1", true, "B2", api.FaultNone, "A3", false, "C1", "", "A2", inf, "B3", 0.0)
	put(t, g, cell("D4"), plain(val(nans()[3])))
	nan := val(nans()[0])
	allAlike(t, "plain ones", g, shown(
		"A1", true, true,
		"C1", "", "",
		"IV1", "x", "x",
		"A2", inf, inf,
		"B2", api.FaultNone, api.FaultNone,
		"A3", false, false,
		"B3", 0.0, 0.0,
		"D4", nan, nan,
		"A4096", minus, minus,
		"IV4096", 1.0, 1.0,
	))
	if l, err := whole.Waves(g); err != api.OK || len(l) > 0 {
		t.Errorf("P19.4: Waves of no formula: %v, %d", l, err)
	}
	sameCells(t, "P19.4: Circles of plain ones", whole.Circles(g), nil)
}

// TestOneFormula: what one cell shows, over plain ones of each kind, and empty ones.
func TestOneFormula(t *testing.T) {
	nan := val(nans()[0])
	for _, c := range []struct {
		text string
		want any
	}{
		// It uses no cell.
		{"1+2", 3.0}, {"-0", minus}, {`""`, ""}, {"TRUE", true}, {"#REF!", api.FaultRef}, {"SUM(0.1,0.2)", 0.30000000000000004},
		// Empty ones: no formula shows a blank.
		{"D1", 0.0}, {"IV4096", 0.0}, {"D1+1", 1.0}, {`D1&""`, ""}, {"SUM(D1:D9)", 0.0}, {"COUNTA(E12:IV4096)", 0.0}, {"AVERAGE(D1:D9)", api.FaultDiv}, {"MAX(D1:D9)", 0.0}, {"D1=E1", true},
		// Plain ones of each kind.
		{"A1", 2.0}, {"A2", "x"}, {"A3", true}, {"B1", minus}, {"B2", api.FaultDiv}, {"B3", nan}, {"C1", inf}, {"C2", "12"},
		{"B1+D1", 0.0}, {"-D1", minus}, {"1/B1", api.FaultDiv}, {"B3=B3", false}, {"C1-C1", nan}, {"A2+B2", api.FaultValue}, {"B2+A2", api.FaultDiv}, {"C2+1", 13.0}, {"A3+1", 2.0},
		{"SQRT(-1)", api.FaultNum}, {"A1/0", api.FaultDiv}, {"A2*2", api.FaultValue}, {"SMALL(D1:D2,1)", api.FaultNum}, {"NA()", api.FaultNone}, {"ISBLANK(D1)", true}, {"ISBLANK(A1)", false},
		// Areas of one cell and of many, those that meet, a cell named twice.
		{"SUM(A1:A1)", 2.0}, {"SUM(A1:A3)", 2.0}, {"COUNTA(A1:C3)", 8.0}, {"COUNT(A1:C3)", 4.0}, {"SUM(A1:B1,A1:A3)", 4.0}, {"A1+A1+SUM(A1,A1:A1)", 8.0}, {"SUM(A1:C3)", api.FaultDiv},
		// All cells but its own.
		{"COUNTA(A1:IV8)+COUNTA(A9:H9)+COUNTA(J9:IV9)+COUNTA(A10:IV4096)", 8.0},
	} {
		g := gridOf(t, "A1", 2.0, "A2", "x", "A3", true, "B1", minus, "B2", api.FaultDiv, "B3", nan, "C1", inf, "C2", "12", "I9", "="+c.text)
		want, is := c.want.(api.Value)
		if !is {
			want = val(c.want)
		}
		l := mustCalc(t, g)
		if got := l[len(l)-1]; len(l) != 9 || got.At != cell("I9") || toldValue(got.V) != toldValue(want) {
			t.Errorf("P19.1: %s is %s, not %s", c.text, toldValue(got.V), toldValue(want))
		}
		allAlike(t, c.text, g, told(l))
		if w, err := whole.Waves(g); err != api.OK || fmt.Sprint(w) != "[[{9 9}]]" {
			t.Errorf("P19.4: Waves of %s: %v, %d", c.text, w, err)
		}
	}
}

// TestFormulasOfFormulas: what one comes to is what another one uses, alone and in areas.
func TestFormulasOfFormulas(t *testing.T) {
	allAlike(t, "formulas alone", gridOf(t, "C1", "=B1", "B1", "=A1", "A1", "=7"), shown("A1", "=7", 7.0, "B1", "=A1", 7.0, "C1", "=B1", 7.0))
	allAlike(t, "of one cell", gridOf(t, "B7", "=A1"), shown("B7", "=A1", 0.0))
	// A formula that comes to a blank shows 0, which is a number of an area.
	allAlike(t, "a blank", gridOf(t, "A1", "=D1", "A2", "=COUNT(A1:A1)", "A3", "=COUNTA(D1:D1)", "A4", `=A1&""`),
		shown("A1", "=D1", 0.0, "A2", "=COUNT(A1:A1)", 1.0, "A3", "=COUNTA(D1:D1)", 0.0, "A4", `=A1&""`, "0"))
	// Each fault, the NaN and both noughts go on.
	allAlike(t, "what goes on", gridOf(t, "A1", "=1/0", "B1", "=A1+1", "A2", "=SQRT(-1)", "B2", "=SUM(A2:A2)", "A3", `="x"*1`, "B3", "=-A3", "A4", "=#REF!", "B4", `=A4&"x"`, "A5", "=#NONE!", "B5", "=A5=A5", "A6", "=-0", "B6", "=A6*1", "A7", "=0", "B7", "=A7+A6", "A8", "=D1-D1", "D1", inf, "B8", "=A8+1"),
		shown("A1", "=1/0", api.FaultDiv, "B1", "=A1+1", api.FaultDiv, "D1", inf, inf, "A2", "=SQRT(-1)", api.FaultNum, "B2", "=SUM(A2:A2)", api.FaultNum, "A3", `="x"*1`, api.FaultValue, "B3", "=-A3", api.FaultValue, "A4", "=#REF!", api.FaultRef, "B4", `=A4&"x"`, api.FaultRef, "A5", "=#NONE!", api.FaultNone, "B5", "=A5=A5", api.FaultNone,
			"A6", "=-0", minus, "B6", "=A6*1", minus, "A7", "=0", 0.0, "B7", "=A7+A6", 0.0, "A8", "=D1-D1", val(nans()[0]), "B8", "=A8+1", val(nans()[0])))
	// Areas in which formulas stand, left, right, above and below.
	allAlike(t, "areas", gridOf(t, "B2", "=SUM(A1:A3,C1:C3,B1:B1,B3:B3)", "A1", "=A2+1", "A2", "=A3+1", "A3", 1.0, "B1", "=C3", "C1", "=C2", "C2", "=C3*2", "C3", "=A1", "B3", "=SUM(A1:A3)"),
		shown("A1", "=A2+1", 3.0, "B1", "=C3", 3.0, "C1", "=C2", 6.0, "A2", "=A3+1", 2.0, "B2", "=SUM(A1:A3,C1:C3,B1:B1,B3:B3)", 30.0, "C2", "=C3*2", 6.0, "A3", 1.0, 1.0, "B3", "=SUM(A1:A3)", 6.0, "C3", "=A1", 3.0))
	// What an area shows comes in order, whenever it was worked out.
	allAlike(t, "an area in order", gridOf(t, "A1", `="a"`, "B1", `=A3&"b"`, "A2", `=B1&"c"`, "B2", `="d"`, "A3", `="e"`, "D1", "=JOIN(A1:B3)"),
		shown("A1", `="a"`, "a", "B1", `=A3&"b"`, "eb", "D1", "=JOIN(A1:B3)", "aebebcde", "A2", `=B1&"c"`, "ebc", "B2", `="d"`, "d", "A3", `="e"`, "e"))
}

// long are sheets with as many cells as may be, and what Calc has to tell of some of their cells.
type long struct {
	name string
	g    *grid.Grid
	want map[string]any
	wave int // how many waves it has
}

func longs(t testing.TB) []long {
	down, up, ladder, fan, many, full := grid.New(), grid.New(), grid.New(), grid.New(), grid.New(), grid.New()
	for row := 1; row <= 4096; row++ {
		text := fmt.Sprintf("A%d+1", row-1)
		if row == 1 {
			text = "1"
		}
		put(t, down, xy(1, row), fx(text))
		put(t, up, xy(1, 4097-row), fx(strings.ReplaceAll(text, fmt.Sprint("A", row-1), fmt.Sprint("A", 4098-row))))
		put(t, full, xy(1+(row-1)%256, 1+(row-1)/256), plain(val(float64(row))))
	}
	// Pairs, each of which uses both of the pair ahead.
	put(t, ladder, cell("A1"), plain(val(1.0)))
	put(t, ladder, cell("B1"), plain(val(1.0)))
	for row := 2; row <= 2048; row++ {
		put(t, ladder, xy(1, row), fx(fmt.Sprintf("(A%d+B%d)/2", row-1, row-1)))
		put(t, ladder, xy(2, row), fx(fmt.Sprintf("SUM(A%d:B%d)/2", row-1, row-1)))
	}
	// Many that use one, and one that uses many.
	put(t, fan, cell("IV4096"), fx("1+1"))
	put(t, many, cell("A1"), fx("SUM(B1:IV4096)"))
	for i := range 4095 {
		put(t, fan, xy(1+i%256, 1+i/256), fx("IV4096*2"))
		put(t, many, xy(2+i%255, 1+i/255), fx("1"))
	}
	return []long{
		{"a chain down", down, map[string]any{"A1": 1.0, "A2": 2.0, "A4096": 4096.0}, 4096},
		{"a chain up", up, map[string]any{"A1": 4096.0, "A4096": 1.0}, 4096},
		{"a ladder", ladder, map[string]any{"A2": 1.0, "A2048": 1.0, "B2048": 1.0}, 2047},
		{"many that use one", fan, map[string]any{"A1": 4.0, "IU16": 4.0, "IV4096": 2.0}, 2},
		{"one that uses many", many, map[string]any{"A1": 4095.0, "B1": 1.0}, 2},
		{"plain ones", full, map[string]any{"A1": 1.0, "IV16": 4096.0}, 0},
	}
}

func TestLong(t *testing.T) {
	for _, c := range longs(t) {
		list := mustCalc(t, c.g)
		if len(list) != c.g.Len() {
			t.Errorf("P19.1: %s: %d cells", c.name, len(list))
		}
		for text, want := range c.want {
			found := 0
			for _, one := range list {
				if one.At == cell(text) {
					found++
					if toldValue(one.V) != toldValue(val(want)) {
						t.Errorf("P19.1: %s: %s shows %s", c.name, text, toldValue(one.V))
					}
				}
			}
			if found != 1 {
				t.Errorf("P19.1: %s: %s is told %d times", c.name, text, found)
			}
		}
		allAlike(t, c.name, c.g, told(list))
		w, err := whole.Waves(c.g)
		count := 0
		for _, wave := range w {
			count += len(wave)
		}
		formulas := 0
		for _, one := range list {
			formulas += one.C.Kind / api.Formula
		}
		if err != api.OK || len(w) != c.wave || count != formulas {
			t.Errorf("P19.4: %s: %d waves of %d formulas, error %d", c.name, len(w), count, err)
		}
		sameCells(t, "P19.4: Circles of "+c.name, whole.Circles(c.g), nil)
	}
}
