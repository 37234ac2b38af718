package whole_test

import (
	"fmt"
	"testing"

	"quadrille/api"
	"quadrille/grid"
	"quadrille/whole"
)

// R3: what is handed in and out.

// lists are a node's lists, room too.
func lists(n api.Node) [][]api.Node {
	if cap(n.Args) == 0 {
		return nil
	}
	l := [][]api.Node{n.Args[:cap(n.Args)]}
	for _, a := range n.Args {
		l = append(l, lists(a)...)
	}
	return l
}

// writeOver writes over a list, its room too.
func writeOver[T any](list []T, what T) {
	list = list[:cap(list)]
	for i := range list {
		list[i] = what
	}
}

// ruin writes over all that cells have, their room too.
func ruin(l []api.Cell) {
	for _, c := range l[:cap(l)] {
		for _, list := range lists(c.C.F) {
			writeOver(list, api.Node{Kind: -7, S: "over"})
		}
	}
	writeOver(l, api.Cell{At: xy(7, 7), V: val("over")})
}

// answers are all lists of cells that the calls tell of a sheet.
func answers(t *testing.T, g *grid.Grid) [][]api.Cell {
	t.Helper()
	var l [][]api.Cell
	calc, err := whole.Calc(g)
	by, err2 := whole.By(g, []int{-1, 2})
	free, err3 := whole.Free(g, 5)
	if err != api.OK || err2 != api.OK || err3 != api.OK {
		t.Fatalf("P19.1: errors %d, %d, %d", err, err2, err3)
	}
	return append(l, calc, by, free)
}

func TestAnswersAreNewMemory(t *testing.T) {
	g := example(t)
	put(t, g, cell("D4"), fx("IF(SUM(A1:A3,MAX(A1,B2))>2,-A1%,B1&A2)"))
	was := toldGrid(g)
	var want []string
	for _, l := range answers(t, g) {
		want = append(want, told(l))
	}
	for i := range want {
		all := answers(t, g)
		ruin(all[i])
		sameTold(t, "R3: the grid, an answer of which was written over", toldGrid(g), was)
		for j, l := range all {
			if i != j {
				sameTold(t, "R3: another answer", told(l), want[j])
			}
		}
		for j, l := range answers(t, g) {
			sameTold(t, "R3: asked anew", told(l), want[j])
		}
	}
	// What is done to the grid, an answer doesn't see.
	all := answers(t, g)
	for at := range g.Clone().All() {
		put(t, g, at, api.Content{})
	}
	for j, l := range all {
		sameTold(t, "R3: an answer, the grid of which was emptied", told(l), want[j])
	}
}

// TestCellsShareNothing: one cell's lists are written over, and no other cell sees it.
func TestCellsShareNothing(t *testing.T) {
	g := grid.New()
	same := fx("SUM(A1:A3,MAX(A1,B2),IF(A1>1,2,3))")
	for row := 4; row < 9; row++ {
		put(t, g, xy(1, row), same)
	}
	for _, l := range answers(t, g) {
		for i := range l {
			for _, list := range lists(l[i].C.F) {
				writeOver(list, api.Node{Kind: -7})
			}
			for _, c := range l[i+1:] {
				if !grid.Same(c.C, same) {
					t.Errorf("R3: %s sees what is done to %s", name(c.At), name(l[i].At))
				}
			}
		}
	}
}

func TestWavesShareNothing(t *testing.T) {
	g := gridOf(t, "A1", "=1", "B1", "=2", "C1", "=3", "A2", "=A1", "B2", "=A1", "C2", "=A2", "D2", "=A2", "A3", "=C2", "E5", "=A2", "F6", "=E5")
	want, err := whole.Waves(g)
	if err != api.OK {
		t.Fatalf("P19.4: error %d", err)
	}
	for i := range want {
		l, _ := whole.Waves(g)
		writeOver(l[i], xy(9, 9))
		l[i] = append(l[i], xy(8, 8))
		for j := range l {
			if i != j {
				sameCells(t, fmt.Sprint("R3: wave ", j), l[j], want[j])
			}
		}
	}
	g = gridOf(t, "A1", "=B1", "B1", "=A1", "C1", "=C1")
	l := whole.Circles(g)
	writeOver(l, xy(9, 9))
	sameCells(t, "R3: Circles, asked anew", whole.Circles(g), cells("A1 B1 C1"))
}

// TestPicksStay: they are neither changed nor kept, their room too.
func TestPicksStay(t *testing.T) {
	g := example(t)
	room := []int{-1, 9, -7, 3, 5, 6, 7}
	picks := room[:4]
	l, _ := whole.By(g, picks)
	want := told(l)
	if fmt.Sprint(room) != "[-1 9 -7 3 5 6 7]" {
		t.Errorf("R3: picks are %v", room)
	}
	writeOver(picks, 0)
	sameTold(t, "R3: By, its picks written over", told(l), want)
}

// TestSameStays: two lists stay as they were.
func TestSameStays(t *testing.T) {
	g := example(t)
	a, b := mustCalc(t, g), mustCalc(t, g)
	b[2].V.X++
	want, other := told(a), told(b)
	whole.Same(a, b)
	sameTold(t, "R3: Same", told(a), want)
	sameTold(t, "R3: Same", told(b), other)
}
