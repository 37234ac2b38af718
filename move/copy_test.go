package move_test

import (
	"math"
	"testing"

	"quadrille/api"
	"quadrille/grid"
)

// P22.3: Copy. P22.4: Fill. P22.6: Clear.

func TestCopy(t *testing.T) {
	for _, c := range []struct{ g, from, to, want string }{
		{chapter, "A3", "B3", "A1 1; B1 =A3*2; A2 2; A3 =SUM(A1:A2)+A2; B3 =SUM(B1:B2)+B2"},
		// over a part of itself, either way
		{chapter, "A1:A3", "A2", "A1 1; B1 =A3*2; A2 1; A3 2; A4 =SUM(A2:A3)+A3"}, {chapter, "A2:A4", "A1", "A1 2; B1 =A3*2; A2 =SUM(#REF!)+A1"},
		{"A1 1; B1 2; C1 3", "A1:C1", "B1", "A1 1; B1 1; C1 2; D1 3"}, {"A1 1; B1 2; C1 3", "B1:D1", "A1", "A1 2; B1 3"}, {"A1 1; B1 2; A2 3; B2 4", "A1:B2", "B2", "A1 1; B1 2; A2 3; B2 1; C2 2; B3 3; C3 4"},
		// onto itself, beside itself
		{chapter, "A1:B3", "A1", chapter}, {chapter, "A1:IV4096", "A1", chapter}, {chapter, "A1:A3", "B1", "A1 1; B1 1; A2 2; B2 2; A3 =SUM(A1:A2)+A2; B3 =SUM(B1:B2)+B2"}, {"A1 1; B1 =A1", "A1:B1", "A2", "A1 1; B1 =A1; A2 1; B2 =A2"},
		// empty cells too
		{chapter, "C1:C3", "A2", "A1 1; B1 =A3*2"}, {chapter, "B2", "B1", "A1 1; A2 2; A3 =SUM(A1:A2)+A2"}, {chapter, "A1:B2", "A2", "A1 1; B1 =A3*2; A2 1; B2 =A4*2; A3 2"}, {chapter, "C9:D9", "F9", chapter},
		// to the last row and column
		{"A1 1; B2 =A1", "A1:B2", "IU4095", "A1 1; B2 =A1; IU4095 1; IV4096 =IU4095"}, {"A1 1; B2 =A1", "B2", "IV4096", "A1 1; B2 =A1; IV4096 =IU4095"}, {"IV4096 =IV4095&IU$1", "IV4096", "A2", "A2 =A1&#REF!; IV4096 =IV4095&IU$1"},
		// a row, a column
		{"A1 1; IV1 2; B1 =A$1", "A1:IV1", "A7", "A1 1; B1 =A$1; IV1 2; A7 1; B7 =A$1; IV7 2"}, {"A1 1; A4096 2; A2 =A1", "A1:A4096", "IV1", "A1 1; IV1 1; A2 =A1; IV2 =IV1; A4096 2; IV4096 2"},
		// marks; what is shifted beyond the sheet
		{"B2 =$A$1+$A1+A$1+A1", "B2", "D5", "B2 =$A$1+$A1+A$1+A1; D5 =$A$1+$A4+C$1+C4"}, {"B2 =$A$1+$A1+A$1+A1", "B2", "A1", "A1 =$A$1+#REF!+#REF!+#REF!; B2 =$A$1+$A1+A$1+A1"},
		{"B2 =SUM(A1:B2)+SUM($A$1:IV2)", "B2", "C2", "B2 =SUM(A1:B2)+SUM($A$1:IV2); C2 =SUM(B1:C2)+SUM(#REF!)"}, {"C3 =SUM($B$2:C3)", "C3", "A1", "A1 =SUM(A1:$B$2); C3 =SUM($B$2:C3)"}, {"B2 =IV4096", "B2", "B3", "B2 =IV4096; B3 =#REF!"},
		// formulas elsewhere stay, also those that name what is copied over
		{"A1 1; C1 =SUM(A1:A2)+A2; D1 =A1", "A1", "A2", "A1 1; C1 =SUM(A1:A2)+A2; D1 =A1; A2 1"},
		// all kinds
		{"A1 -0; B1 NaN; C1 'x; D1 FALSE; E1 #NUM!; F1 =\"A1\"", "A1:F1", "A2", "A1 -0; B1 NaN; C1 'x; D1 FALSE; E1 #NUM!; F1 =\"A1\"; A2 -0; B2 NaN; C2 'x; D2 FALSE; E2 #NUM!; F2 =\"A1\""},
	} {
		copied(area(c.from), cell(c.to)).comesTo(t, laid(c.g), c.want)
	}
}

func TestFill(t *testing.T) {
	for _, c := range []struct{ g, from, to, want string }{
		{chapter, "B1", "B1:B3", "A1 1; B1 =A3*2; A2 2; B2 =A4*2; A3 =SUM(A1:A2)+A2; B3 =A5*2"}, {chapter, "B1", "B2:C3", "A1 1; B1 =A3*2; A2 2; B2 =A4*2; C2 =B4*2; A3 =SUM(A1:A2)+A2; B3 =A5*2; C3 =B5*2"},
		{chapter, "A1", "A1:B2", "A1 1; B1 1; A2 1; B2 1; A3 =SUM(A1:A2)+A2"}, {chapter, "A1", "A1", chapter}, {chapter, "A3", "A3", chapter}, {chapter, "A3", "C9", "A1 1; B1 =A3*2; A2 2; A3 =SUM(A1:A2)+A2; C9 =SUM(C7:C8)+C8"},
		// ahead of it, around it
		{"C3 =B2+$B$2", "C3", "A1:C3", "A1 =#REF!+$B$2; B1 =#REF!+$B$2; C1 =#REF!+$B$2; A2 =#REF!+$B$2; B2 =A1+$B$2; C2 =B1+$B$2; A3 =#REF!+$B$2; B3 =A2+$B$2; C3 =B2+$B$2"}, {"B2 =A1", "B2", "A1:C3", "A1 =#REF!; B1 =#REF!; C1 =#REF!; A2 =#REF!; B2 =A1; C2 =B1; A3 =#REF!; B3 =A2; C3 =B2"},
		// of an empty cell
		{chapter, "C9", "A1:B3", ""}, {chapter, "C9", "A1:A2", "B1 =A3*2; A3 =SUM(A1:A2)+A2"}, {chapter, "C9", "A1:IV4096", ""}, {chapter, "B2", "B1:B4096", "A1 1; A2 2; A3 =SUM(A1:A2)+A2"},
		// to the last row and column
		{"A1 =A1+IV4096", "A1", "IU4095:IV4096", "A1 =A1+IV4096; IU4095 =IU4095+#REF!; IV4095 =IV4095+#REF!; IU4096 =IU4096+#REF!; IV4096 =IV4096+#REF!"}, {"IV4096 'x", "IV4096", "IU1:IV1", "IU1 'x; IV1 'x; IV4096 'x"}, {"IV4096 =SUM(IU4096:$IU4096)", "IV4096", "A1:B1", "A1 =SUM(#REF!); B1 =SUM(A1:$IU1); IV4096 =SUM(IU4096:$IU4096)"},
		{"A1 NaN; B1 -0", "B1", "A1:A2", "A1 -0; B1 -0; A2 -0"},
	} {
		filled(cell(c.from), area(c.to)).comesTo(t, laid(c.g), c.want)
	}
}

func TestClear(t *testing.T) {
	for _, c := range []struct{ a, want string }{
		{"A1:A2", "B1 =A3*2; A3 =SUM(A1:A2)+A2"}, {"A1", "B1 =A3*2; A2 2; A3 =SUM(A1:A2)+A2"}, {"A3", "A1 1; B1 =A3*2; A2 2"}, {"B1", "A1 1; A2 2; A3 =SUM(A1:A2)+A2"}, {"A1:IV1", "A2 2; A3 =SUM(A1:A2)+A2"}, {"A1:A4096", "B1 =A3*2"},
		{"A1:IV4096", ""}, {"C1:IV4096", chapter}, {"A4:IV4096", chapter}, {"B2:IV3", chapter}, {"IV4096", chapter}, {"A2:B3", "A1 1; B1 =A3*2"},
	} {
		cleared(area(c.a)).comesTo(t, laid(chapter), c.want)
	}
	cleared(area("IU4095:IV4096")).comesTo(t, laid("IV4096 1; IT4095 2; IU4094 3"), "IU4094 3; IT4095 2")
}

// TestAreasRefused: areas that may not be, then what is no cell, then what has no room.
func TestAreasRefused(t *testing.T) {
	for _, g := range []*grid.Grid{grid.New(), laid(chapter), full()} {
		was := toldGrid(g)
		for _, a := range noAreas() {
			for _, at := range []api.Addr{cell("A1"), cell("IV4096"), {}, xy(math.MaxInt, math.MinInt)} {
				copied(a, at).isRefused(t, g, api.ErrArg)
				moved(a, at).isRefused(t, g, api.ErrArg)
				filled(at, a).isRefused(t, g, api.ErrArg)
			}
			cleared(a).isRefused(t, g, api.ErrArg)
		}
		for _, at := range noCells() {
			for _, a := range []api.Area{area("A1"), area("A1:B2"), area("A1:IV4096"), area("IV4096"), area("C1:C4096"), area("A3:IV3")} {
				copied(a, at).isRefused(t, g, api.ErrAddr)
				moved(a, at).isRefused(t, g, api.ErrAddr)
				filled(at, a).isRefused(t, g, api.ErrAddr)
			}
		}
		stays(t, g, was)
	}
}

// TestBeyondTheSheet: the area that is as great must be on the sheet altogether, whatever is in it.
func TestBeyondTheSheet(t *testing.T) {
	for _, g := range []*grid.Grid{grid.New(), laid(chapter), full()} {
		was := toldGrid(g)
		for _, c := range []struct{ from, to string }{
			{"A1:B1", "IV1"}, {"A1:A2", "A4096"}, {"A1:B2", "IV4095"}, {"A1:B2", "IU4096"}, {"A1:B2", "IV4096"}, {"A1:IV1", "B1"}, {"A1:A4096", "A2"}, {"A1:IV4096", "B1"}, {"A1:IV4096", "A2"}, {"A1:IV4096", "IV4096"}, {"IU4095:IV4096", "IV4095"}, {"C3:E5", "IU1"}, {"C3:E5", "A4095"},
		} {
			copied(area(c.from), cell(c.to)).isRefused(t, g, api.ErrAddr)
			moved(area(c.from), cell(c.to)).isRefused(t, g, api.ErrAddr)
		}
		stays(t, g, was)
	}
	g := laid("C3 1; E5 2")
	for _, c := range []struct{ from, to, want string }{
		{"C3:E5", "IT4094", "C3 1; E5 2; IT4094 1; IV4096 2"}, {"C3:E5", "A4094", "C3 1; E5 2; A4094 1; C4096 2"}, {"C3:E5", "IT1", "IT1 1; C3 1; IV3 2; E5 2"}, {"A1:IV4095", "A2", "C4 1; E6 2"}, {"A1:IU4096", "B1", "D3 1; F5 2"},
	} {
		copied(area(c.from), cell(c.to)).comesTo(t, g, c.want)
	}
}

// TestFullGrids: a grid may have as many cells as MaxCells behind the call, however many are emptied and filled.
func TestFullGrids(t *testing.T) {
	// Each second cell is filled: A1 is, B1 isn't, A2 isn't, B2 is.
	g := full()
	was := toldGrid(g)
	holds := func(a act, want sheet, err api.Errno, count int) {
		t.Helper()
		h := a.mustDo(t, g)
		if err != api.OK || h.Len() != count {
			t.Errorf("%s: %d cells, not %d", a.what, h.Len(), count)
		}
		sameTold(t, a.what, toldGrid(h), want.told())
	}
	for _, c := range []struct {
		from, to string
		count    int
	}{
		{"A1", "B2", 4096}, {"A1:B1", "A2", 4096}, {"A1:B2", "B1", 4096}, {"A1:IV32", "A1", 4096}, {"A1:IU32", "B1", 4096}, {"A1:IV31", "A2", 4096}, {"B1", "A1", 4095}, {"B1", "A2", 4096}, {"A50:B51", "A1", 4094}, {"A1:IV32", "A33", 0}, {"A1:C1", "A2", 0}, {"A1", "A2", 0}, {"A1", "A33", 0}, {"B1", "A33", 4096}, {"A1:B1", "A33", 0},
	} {
		a := copied(area(c.from), cell(c.to))
		if c.count == 0 {
			a.isRefused(t, g, api.ErrFull)
			continue
		}
		want, err := sheetOf(g).copied(area(c.from), cell(c.to))
		holds(a, want, err, c.count)
	}
	for _, c := range []struct {
		from, to string
		count    int
	}{{"A1", "A1", 4096}, {"A1", "B2", 4096}, {"A1", "A2", 0}, {"A1", "A1:B1", 0}, {"B1", "A1:B1", 4095}, {"B1", "A33", 4096}, {"A1", "A33", 0}, {"A1", "A1:IV4096", 0}, {"B1", "A1:IV4096", 0}, {"B1", "A1:IV32", 0}} {
		a := filled(cell(c.from), area(c.to))
		if c.count == 0 && c.from == "A1" {
			a.isRefused(t, g, api.ErrFull)
			continue
		}
		want, err := sheetOf(g).filled(cell(c.from), area(c.to))
		holds(a, want, err, c.count)
	}
	for _, c := range []struct {
		from, to string
		count    int
	}{{"A1", "A2", 4096}, {"A1", "IV4096", 4096}, {"A1", "B2", 4095}, {"B1", "A1", 4095}, {"B1", "A2", 4096}, {"A1:IV32", "A33", 4096}, {"A1:IV32", "A2", 4096}, {"A1:IV32", "A1", 4096}, {"A1:IV16", "A17", 2048}, {"A33:IV64", "A1", 0}, {"A1:B2", "B2", 4095}} {
		want, err := sheetOf(g).movedArea(area(c.from), cell(c.to))
		holds(moved(area(c.from), cell(c.to)), want, err, c.count)
	}
	stays(t, g, was)
}

// TestUpToFull: up to the last cell that has room, and one beyond.
func TestUpToFull(t *testing.T) {
	g := full()
	put(g, cell("A1"), api.Content{})
	put(g, cell("C1"), api.Content{}) // room for two
	was := toldGrid(g)
	for _, c := range []struct {
		from, to string
		want     api.Errno
	}{{"B2", "A40", api.OK}, {"B2:D2", "A40", api.OK}, {"B2:F2", "A40", api.ErrFull}, {"B2:F2", "A4096", api.ErrFull}, {"B2:E2", "A40", api.OK}, {"A1:C1", "A40", api.OK}, {"A1:E1", "A40", api.OK}, {"A1:G1", "A40", api.OK}, {"A1:I1", "A40", api.ErrFull}} {
		h, err := copied(area(c.from), cell(c.to)).do(g)
		if err != c.want || (h == nil) != (err != api.OK) {
			t.Errorf("P22.3: Copy(%s, %s): error %d, not %d", c.from, c.to, err, c.want)
		}
	}
	for _, c := range []struct {
		from, to string
		want     api.Errno
	}{{"B2", "A40", api.OK}, {"B2", "A40:B40", api.OK}, {"B2", "A40:A41", api.OK}, {"B2", "A40:C40", api.ErrFull}, {"B2", "A1:C1", api.ErrFull}, {"B2", "A1:B1", api.OK}, {"A1", "A40:IV50", api.OK}} {
		h, err := filled(cell(c.from), area(c.to)).do(g)
		if err != c.want || (h == nil) != (err != api.OK) {
			t.Errorf("P22.4: Fill(%s, %s): error %d, not %d", c.from, c.to, err, c.want)
		}
	}
	stays(t, g, was)
	// As many cells as may be out of one, whether it is among them or not.
	one := laid("A1 =B1+$C$1")
	for _, c := range []struct {
		to   string
		want api.Errno
	}{{"A1:IV16", api.OK}, {"A1:A4096", api.OK}, {"A1:IV17", api.ErrFull}, {"A2:IV17", api.ErrFull}, {"B1:B4096", api.ErrFull}, {"A2:A4096", api.OK}, {"A1:IV4096", api.ErrFull}, {"B1:IV16", api.OK}} {
		h, err := filled(cell("A1"), area(c.to)).do(one)
		if err != c.want || (h == nil) != (err != api.OK) {
			t.Errorf("P22.4: Fill(A1, %s): error %d, not %d", c.to, err, c.want)
		}
		if want, due := sheetOf(one).filled(cell("A1"), area(c.to)); due == api.OK && err == api.OK {
			sameTold(t, "P22.4: Fill into "+c.to, toldGrid(h), want.told())
		}
	}
}

// TestCopyOfBigFormulas: as many nodes, as deep as may be, are shifted, and what they were stays.
func TestCopyOfBigFormulas(t *testing.T) {
	many := call("SUM")
	for range api.MaxNodes - 1 {
		many.Args = append(many.Args, tree("C3"))
	}
	for _, n := range []api.Node{many, chain(tree("C3"), api.MaxDeep-1)} {
		g := grid.New()
		put(g, cell("B2"), api.Content{Kind: api.Formula, F: n})
		for _, to := range []string{"C3", "A1", "IV4096", "B2"} {
			want, err := sheetOf(g).copied(area("B2"), cell(to))
			if err != api.OK {
				t.Fatal(err)
			}
			sameTold(t, "P22.3: to "+to, toldGrid(copied(area("B2"), cell(to)).mustDo(t, g)), want.told())
			want, _ = sheetOf(g).movedArea(area("B2:C3"), xy(min(255, cell(to).Col), min(4095, cell(to).Row)))
			sameTold(t, "P22.5: to "+to, toldGrid(moved(area("B2:C3"), xy(min(255, cell(to).Col), min(4095, cell(to).Row))).mustDo(t, g)), want.told())
		}
	}
}
