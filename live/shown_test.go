package live_test

import (
	"fmt"
	"math"
	"testing"

	"quadrille/api"
	"quadrille/grid"
	"quadrille/live"
)

// P20.2: shown.

func TestShown(t *testing.T) {
	s := sheetOf(t, "A1", 2.0, "A2", "=A1*3", "A3", "=SUM(A1:A2)", "B1", `=A3&"!"`, "B2", "=1/0", "C1", minus, "C2", "x", "C3", false, "D1", api.FaultRef, "D2", "=Z9", "D3", "=C2=\"X\"", "E1", "", "E2", math.NaN())
	for at, want := range map[string]any{"A1": 2.0, "A2": 6.0, "A3": 8.0, "B1": "8!", "B2": api.FaultDiv, "C1": minus, "C2": "x", "C3": false, "D1": api.FaultRef, "D2": 0.0, "E1": "", "E2": math.Float64frombits(theNaN), "Z9": nil, "A4": nil, "IV4096": nil} {
		shows(t, s, at, want)
	}
	for _, p := range puts("A1", 2.0, "A2", "=A1*3", "B2", "=1/0", "C1", minus, "C2", "x", "D1", api.FaultRef, "E1", "", "E2", math.Float64frombits(theNaN), "Z9", nil) {
		if got := s.Content(p.At); toldContent(got) != toldContent(p.C) {
			t.Errorf("P20.2: Content(%s): %s", name(p.At), toldContent(got))
		}
	}
	var at []api.Addr
	for _, c := range s.Cells() {
		at = append(at, c.At)
		if toldContent(c.C) != toldContent(s.Content(c.At)) || toldValue(c.V) != toldValue(s.Value(c.At)) {
			t.Errorf("P20.2: Cells: %s: %s, %s", name(c.At), toldContent(c.C), toldValue(c.V))
		}
	}
	sameCells(t, "P20.2: Cells", at, cells("A1 B1 C1 D1 E1 A2 B2 C2 D2 E2 A3 C3 D3"))
	g := s.Grid()
	if g.Len() != len(at) {
		t.Errorf("P20.2: Grid has %d", g.Len())
	}
	for _, c := range s.Cells() {
		if !grid.Same(g.Get(c.At), c.C) {
			t.Errorf("P20.2: Grid has %s in %s", toldContent(g.Get(c.At)), name(c.At))
		}
	}
	isWhole(t, "shown", s)
}

// TestNoCells: what there is not.
func TestNoCells(t *testing.T) {
	s := sheetOf(t, "A1", 1.0, "B2", "=SUM(A1:A4096)", "IV4096", "=A1", "C3", "=SUM(D1:IV4095)")
	for _, at := range noCells() {
		if v, c, l := s.Value(at), s.Content(at), s.Users(at); toldValue(v) != toldValue(api.Value{}) || toldContent(c) != toldContent(api.Content{}) || len(l) > 0 {
			t.Errorf("P20.2: of no cell %v: %s, %s, %s", at, toldValue(v), toldContent(c), names(l))
		}
	}
	// Empty ones may have users.
	for at, want := range map[string]string{"A1": "B2 IV4096", "A2": "B2", "A4096": "B2", "D1": "C3", "IV4095": "C3", "IV4096": "", "B2": "", "B1": ""} {
		sameCells(t, "P20.2: Users("+at+")", s.Users(cell(at)), cells(want))
	}
}

// TestUsers: formulas that come and go.
func TestUsers(t *testing.T) {
	s := live.New()
	users := func(at, want string) {
		t.Helper()
		sameCells(t, "P20.2: Users("+at+")", s.Users(cell(at)), cells(want))
	}
	users("A1", "")
	set(t, s, "B9", "=A1+A1", "C1", "=SUM(A1:A9)", "A2", "=IF(FALSE,$A$1,2)", "D1", 1.0)
	users("A1", "C1 A2 B9")
	users("A2", "C1")
	set(t, s, "C1", "=B9")
	users("A1", "A2 B9")
	users("B9", "C1")
	set(t, s, "A2", 7.0, "B9", nil)
	users("A1", "")
	users("B9", "C1")
	refused(t, "a circle", s, puts("D1", "=A1", "B9", "=C1"), 1, api.ErrCycle)
	users("A1", "")
	users("C1", "")
	set(t, s, "A1", 1.0)
	users("A1", "")
}

// TestNaNs: whatever NaN is put, the one NaN is told; in a formula none may be.
func TestNaNs(t *testing.T) {
	for _, x := range nans() {
		tree := api.Node{Kind: api.NodeCall, S: "SUM", Args: []api.Node{{Kind: api.NodeNumber, X: x}}}
		refused(t, "a formula with a NaN", live.New(), puts("A1", api.Content{Kind: api.Formula, F: tree}), 0, api.ErrArg)
		s := sheetOf(t, "A1", x, "A2", "=A1", "A3", "=SUM(A1:A2)")
		for _, c := range s.Cells() {
			if bits := math.Float64bits(c.V.X); bits != theNaN {
				t.Errorf("P20.2: %s shows a NaN of the bits %x", name(c.At), bits)
			}
		}
		if bits := math.Float64bits(s.Content(cell("A1")).V.X); bits != theNaN {
			t.Errorf("P20.2: A1 has a NaN of the bits %x", bits)
		}
		for k, y := range nans() {
			set(t, s, "A1", y)
			did(t, s, "", "")
			if bits := math.Float64bits(s.Value(cell("A1")).X); bits != theNaN {
				t.Errorf("P20.2: behind NaN %d A1 shows one of the bits %x", k, bits)
			}
		}
	}
}

// TestNew: nothing in it.
func TestNew(t *testing.T) {
	s := live.New()
	if len(s.Cells()) > 0 || s.Grid() == nil || s.Grid().Len() > 0 || len(s.Worked()) > 0 || len(s.Changed()) > 0 {
		t.Error("P20.2: New has something")
	}
	for _, at := range cells("A1 IV1 A4096 IV4096") {
		if s.Value(at) != (api.Value{}) || s.Content(at).Kind != api.Empty || len(s.Users(at)) > 0 {
			t.Errorf("P20.2: %s of New shows something", name(at))
		}
	}
	if live.New() == live.New() {
		t.Error("P20.2: New twice is one sheet")
	}
	set(t, s, "A1", 1.0)
	if len(live.New().Cells()) > 0 {
		t.Error("P20.2: a new sheet sees another one")
	}
}

// TestCorners: the corners of what there is, and areas as great as may be.
func TestCorners(t *testing.T) {
	s := sheetOf(t, "A1", 1.0, "IV1", 2.0, "A4096", 3.0, "IV4096", "=SUM(A1:IV4095)", "B2", "=SUM(C1:IV1)+SUM(A3:A4096)")
	shows(t, s, "B2", 5.0)
	shows(t, s, "IV4096", 8.0)
	set(t, s, "C3", 4.0)
	shows(t, s, "IV4096", 12.0)
	did(t, s, "IV4096", "C3 IV4096")
	refused(t, "all cells", s, puts("D4", "=SUM(A1:IV4096)"), 0, api.ErrCycle)
	refused(t, "all but one", s, puts("D4", "=COUNT(A1:IV3)+COUNT(A5:IV4096)", "E1", "=D4"), 0, api.ErrCycle)
	for i, text := range []string{"=COUNTA(A1:IV3)", "=COUNTA(A4:C4096)", "=COUNTA(E4:IV4095)", "=COUNTA(D5:D4096)"} {
		set(t, s, "D4", text)
		isWhole(t, fmt.Sprint("D4 ", i), s)
	}
}
