package live_test

import (
	"fmt"
	"math/rand"
	"testing"

	"quadrille/api"
	"quadrille/grid"
	"quadrille/live"
	"quadrille/whole"
)

// P20.4: From, Copy.

func TestFrom(t *testing.T) {
	if s, err := live.From(nil); s != nil || err != api.ErrArg {
		t.Errorf("P20.4: From(nil): %v, error %d", s, err)
	}
	for i, g := range []*grid.Grid{grid.New(), {}, gridOf(t, "A1", 1.0, "A1", nil)} {
		s, err := live.From(g)
		if err != api.OK || s == nil {
			t.Fatalf("P20.4: From of no cells, %d: error %d", i, err)
		}
		sameTold(t, "P20.4: From of no cells", toldSheet(s), toldSheet(live.New()))
		set(t, s, "A1", 1.0, "A2", "=A1")
		shows(t, s, "A2", 1.0)
		if g.Len() > 0 {
			t.Error("P20.4: the grid sees what is done to its sheet")
		}
	}
	g := gridOf(t, "A1", "=A2+1", "A2", "=SUM(B1:B9)", "B9", 2.0, "B1", "=C1", "C1", "4", "D1", nans()[3])
	s, err := live.From(g)
	if err != api.OK {
		t.Fatalf("P20.4: From: error %d", err)
	}
	isWhole(t, "From", s)
	if !s.Grid().Equal(g) {
		t.Error("P20.4: From: its grid is another one")
	}
	did(t, s, "", "")
	shows(t, s, "A1", 3.0)
	sameCells(t, "P20.2: Users behind From", s.Users(cell("B9")), cells("A2"))
	// From then on it is a sheet as all others are.
	refused(t, "a circle", s, puts("C1", "=A1"), 0, api.ErrCycle)
	set(t, s, "B9", 5.0)
	did(t, s, "A1 A2", "A1 A2 B9")
	if g.Get(cell("B9")).V.X != 2 {
		t.Error("P20.4: the grid sees what is done to its sheet")
	}
	if err := g.Put(cell("B9"), content(9.0)); err != api.OK {
		t.Fatal(err)
	}
	shows(t, s, "B9", 5.0)
}

func TestFromCircles(t *testing.T) {
	for i, list := range [][]any{
		{"A1", "=A1"},
		{"A1", "=B1", "B1", "=A1"},
		{"A1", 1.0, "B1", "=A1", "C1", "=SUM(A1:D1)", "D1", 2.0},
		{"A1", "=B1", "B1", "=C1", "C1", "=D1", "D1", "=IF(TRUE,1,A1)", "Z9", 1.0},
		{"A1", "=A2", "A2", "=A3", "A3", "=A3"},
	} {
		if s, err := live.From(gridOf(t, list...)); s != nil || err != api.ErrCycle {
			t.Errorf("P20.4: From of circle %d: %v, error %d", i, s, err)
		}
	}
	g := chain(t).Grid()
	if s, err := live.From(g); err != api.OK {
		t.Errorf("P20.4: From of a chain: error %d", err)
	} else {
		isWhole(t, "From of a chain", s)
	}
	g.Put(cell("A1"), fx(name(place(api.MaxCells-1))))
	if s, err := live.From(g); s != nil || err != api.ErrCycle {
		t.Errorf("P20.4: From of a ring of all cells: %v, error %d", s, err)
	}
}

// TestFromByChance: From takes just the grids that whole.Calc does.
func TestFromByChance(t *testing.T) {
	r := rand.New(rand.NewSource(204))
	counts := map[api.Errno]int{}
	for i := range 400 {
		m := maker{r, xy(1+r.Intn(9), 1+r.Intn(9)), 1 + r.Intn(6), 1 + r.Intn(6)}
		g := grid.New()
		for range r.Intn(20) {
			g.Put(m.cell(), m.content())
		}
		was, err := whole.Calc(g)
		s, err2 := live.From(g)
		if counts[err]++; err != err2 {
			t.Fatalf("P20.4: From of grid %d: error %d, not %d", i, err2, err)
		}
		if err == api.OK {
			sameTold(t, "P20.4: From", toldCells(s.Cells()), toldCells(was))
			did(t, s, "", "")
		}
	}
	if counts[api.OK] < 100 || counts[api.ErrCycle] < 50 {
		t.Errorf("too few of a sort: %v", counts)
	}
}

func TestCopy(t *testing.T) {
	s := sheetOf(t, "A1", 1.0, "A2", "=A1+1", "B1", "=SUM(A1:A9)")
	set(t, s, "A1", 2.0)
	was := toldSheet(s)
	o := s.Copy()
	if o == s {
		t.Error("P20.4: Copy is the sheet itself")
	}
	sameTold(t, "P20.4: Copy", toldSheet(o), was)
	did(t, o, "B1 A2", "A1 B1 A2")
	for i, batch := range [][]any{{"A1", 5.0}, {"A2", nil}, {"A3", 1.0}, {"B1", "=A9", "C1", "=B1"}, {}} {
		// What is done to the one, the other one doesn't see; either way round.
		set(t, o, batch...)
		sameTold(t, fmt.Sprintf("P20.4: the sheet, behind batch %d into its copy", i), toldSheet(s), was)
		isWhole(t, "a copy", o)
		set(t, s, batch...)
		was = toldSheet(s)
		sameTold(t, fmt.Sprintf("P20.4: both behind batch %d", i), toldSheet(o), was)
		set(t, s, "A1", 1.0, "A2", "=A1+1", "B1", "=SUM(A1:A9)", "C1", nil, "A3", nil)
		set(t, s, "A1", 2.0)
		sameTold(t, fmt.Sprintf("P20.4: the copy, behind batch %d", i), toldSheet(o), was)
		was = toldSheet(s)
		o = s.Copy()
	}
	// What is refused leaves the copy's Worked and Changed too.
	o = s.Copy()
	refused(t, "a circle in a copy", o, puts("A1", "=A2"), 0, api.ErrCycle)
	did(t, o, "B1 A2", "A1 B1 A2")
	sameTold(t, "P20.4: Copy of a Copy", toldSheet(o.Copy().Copy()), was)
}

// TestGridIsItsOwn: neither sees what is done to the other.
func TestGridIsItsOwn(t *testing.T) {
	s := sheetOf(t, "A1", 1.0, "A2", "=A1+1")
	was := toldSheet(s)
	g := s.Grid()
	for _, at := range cells("A1 A2 B7") {
		if err := g.Put(at, content("=B1+3")); err != api.OK {
			t.Fatal(err)
		}
	}
	sameTold(t, "P20.2: the sheet, its Grid put over", toldSheet(s), was)
	set(t, s, "A1", nil, "A2", 3.0, "B7", 4.0)
	if g.Len() != 3 || !grid.Same(g.Get(cell("A1")), content("=B1+3")) || !grid.Same(g.Get(cell("B7")), content("=B1+3")) {
		t.Error("P20.2: a Grid sees what is done to its sheet")
	}
}
