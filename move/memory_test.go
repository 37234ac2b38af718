package move_test

import (
	"fmt"
	"slices"
	"testing"

	"quadrille/api"
	"quadrille/grid"
	"quadrille/move"
)

// P22.7, R3: what is handed in and out.

// roomy is a node whose lists have room, with something in it.
func roomy(n api.Node) api.Node {
	if n.Args == nil {
		return n
	}
	args := make([]api.Node, 0, len(n.Args)+3)
	for _, a := range n.Args {
		args = append(args, roomy(a))
	}
	rest := args[len(args):cap(args)]
	for i := range rest {
		rest[i] = api.Node{Kind: 77, S: "spare"}
	}
	n.Args = args
	return n
}

// lists are a node's lists, room too.
func lists(n api.Node) [][]api.Node {
	if cap(n.Args) == 0 {
		return nil
	}
	l := [][]api.Node{n.Args[:cap(n.Args)]}
	for _, a := range n.Args {
		l = append(l, lists(a)...)
	}
	return l
}

// toldWhole is a node with its lists' room.
func toldWhole(n api.Node) string {
	text := toldNode(n)
	for _, l := range lists(n) {
		for _, m := range l {
			text += toldNode(m)
		}
	}
	return text
}

// writeOver writes over all lists of a node, their room too.
func writeOver(n api.Node) {
	for _, l := range lists(n) {
		for i := range l {
			l[i] = api.Node{Kind: -7, S: "over", X: 7}
		}
	}
}

// TestFormulaMemory: the formula that is handed in is neither changed nor kept; no two lists share memory.
func TestFormulaMemory(t *testing.T) {
	for _, text := range []string{"7", "B2", "SUM(A1:B2,B3,C4:D5)", `IF(A1>2,SUM(B2:C3,MAX(B2,C3)),-B3%&"x")`, "SUM(SUM(SUM(B2),B3),B4)", "1+2*3", "NA()"} {
		for _, count := range []int{0, 1, -1, -9, 4096} {
			n := roomy(tree(text))
			was := toldWhole(n)
			m, err := move.Formula(n, false, 2, count)
			about := fmt.Sprintf("%s, count %d", text, count)
			if err != api.OK || toldWhole(n) != was {
				t.Errorf("R3: %s: changed, or error %d", about, err)
			}
			seen := map[*api.Node]int{}
			for _, l := range slices.Concat(lists(n), lists(m)) {
				for i := range l {
					seen[&l[i]]++
					if seen[&l[i]] > 1 {
						t.Errorf("R3: %s: memory is shared", about)
					}
				}
			}
			told := toldNode(m)
			writeOver(n)
			sameTold(t, "R3: "+about+": the answer, what was handed in written over", toldNode(m), told)
			again, _ := move.Formula(tree(text), false, 2, count)
			sameTold(t, "R4: "+about+": once more", toldNode(again), told)
		}
	}
}

// TestFormulaOfOneList: a list that stands in two nodes of what is handed in stands in none twice in the answer.
func TestFormulaOfOneList(t *testing.T) {
	list := []api.Node{tree("B2"), tree("B3")}
	n := call("SUM", call("SUM", list...), call("MAX", list...))
	m, err := move.Formula(n, false, 3, 2)
	if err != api.OK || toldNode(m) != toldNode(tree("SUM(SUM(B2,B5),MAX(B2,B5))")) || toldNode(n) != toldNode(tree("SUM(SUM(B2,B3),MAX(B2,B3))")) {
		t.Errorf("R3: %s, error %d; handed in %s", toldNode(m), err, toldNode(n))
	}
	writeOver(m.Args[0])
	if toldNode(m.Args[1]) != toldNode(tree("MAX(B2,B5)")) {
		t.Error("R3: two lists of an answer share memory")
	}
}

// acts are calls that a grid of many formulas takes, some of which change nothing.
func acts() []act {
	return []act{
		rows(2, 1), rows(2, 0), rows(2, -1), rows(4000, 5), rows(1, -4096), cols(2, 1), cols(2, 0), cols(1, -1), cols(200, -9),
		copied(area("A1:B3"), cell("A1")), copied(area("A1:B3"), cell("B2")), copied(area("Z1:Z3"), cell("Y1")), copied(area("A3"), cell("D9")),
		filled(cell("A3"), area("A3")), filled(cell("A3"), area("A3:C5")), filled(cell("Z9"), area("Y1:Y2")), filled(cell("B1"), area("A1:C1")),
		moved(area("A1:B3"), cell("A1")), moved(area("A1:B3"), cell("B2")), moved(area("Z1:Z3"), cell("Y1")), moved(area("A3"), cell("D9")),
		cleared(area("A1:A2")), cleared(area("Z1:Z9")), cleared(area("A1:IV4096")),
		rows(0, 1), rows(1, 4096), cols(1, 257), copied(area("A1:B3"), cell("IV1")), copied(api.Area{}, cell("A1")), filled(api.Addr{}, area("A1")), filled(cell("A3"), area("A1:IV4096")), moved(area("A1:B3"), cell("A4095")), cleared(api.Area{}), // refused
	}
}

// formulas is a grid of plain contents and formulas, whose lists had room when they were put.
func formulas() *grid.Grid {
	g := laid("A1 1; A2 -0; B2 'x; C3 NaN")
	for at, text := range map[string]string{"A3": "SUM(A1:A2)+A2", "B1": "A3*2", "B3": "IF(A1>2,SUM(A1:B2,MAX(A1,A2)),-A2%)", "C1": "SUM(SUM(SUM(A1),$A$2),B$2)", "D9": "NA()"} {
		put(g, cell(at), api.Content{Kind: api.Formula, F: roomy(tree(text))})
	}
	return g
}

// putOver puts something else into all cells of a grid, and then empties it; told is asked in between.
func putOver(t testing.TB, about string, g *grid.Grid, told func() string) {
	t.Helper()
	was := told()
	filledCells := g.Clone()
	for _, c := range g.All() {
		writeOver(c.F)
	}
	sameTold(t, about+", what its All told written over", told(), was)
	for at := range filledCells.All() {
		put(g, at, content("=SUM(9,8,7)"))
	}
	put(g, cell("G7"), content("'more"))
	sameTold(t, about+", put over", told(), was)
	for at := range filledCells.All() {
		put(g, at, api.Content{})
	}
	sameTold(t, about+", emptied", told(), was)
}

// TestGridsAreApart: what is done to a grid, its answers don't see, and the other way round; nor does one answer see what is done to another one.
func TestGridsAreApart(t *testing.T) {
	for _, a := range acts() {
		g := formulas()
		was := toldGrid(g)
		h, err := a.do(g)
		sameTold(t, "P22.7: "+a.what+": the grid behind it", toldGrid(g), was)
		if err != api.OK {
			continue
		}
		if h == g {
			t.Errorf("P22.7: %s answers the grid itself", a.what)
		}
		other := a.mustDo(t, g)
		sameTold(t, "R4: "+a.what+": once more", toldGrid(other), toldGrid(h))
		putOver(t, "P22.7: "+a.what+": another answer", h, func() string { return toldGrid(other) + toldGrid(g) })
		putOver(t, "P22.7: "+a.what+": an answer, the grid", g, func() string { return toldGrid(other) })
		h = a.mustDo(t, formulas())
		sameTold(t, "R4: "+a.what+": of a like grid", toldGrid(h), toldGrid(other))
	}
}

// TestRefusedChangesNothing: behind calls that are refused a grid takes the next one as if they had not been.
func TestRefusedChangesNothing(t *testing.T) {
	g := formulas()
	was := toldGrid(g)
	count := 0
	for _, a := range acts() {
		if h, err := a.do(g); err != api.OK {
			count++
			refused(t, a.what, h, err, err)
			sameTold(t, "R2: "+a.what, toldGrid(g), was)
			sameTold(t, "R2: "+a.what+": a call behind it", toldGrid(rows(2, 1).mustDo(t, g)), toldGrid(rows(2, 1).mustDo(t, formulas())))
		}
	}
	if count != 9 {
		t.Errorf("%d are refused", count)
	}
}
