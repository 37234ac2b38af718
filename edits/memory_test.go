package edits_test

import (
	"fmt"
	"testing"

	"quadrille/api"
	"quadrille/edits"
	"quadrille/grid"
)

// R3: what is handed in and out.

// lists are a node's lists, room too.
func lists(n api.Node) [][]api.Node {
	if cap(n.Args) == 0 {
		return nil
	}
	l := [][]api.Node{n.Args[:cap(n.Args)]}
	for _, a := range n.Args {
		l = append(l, lists(a)...)
	}
	return l
}

// writeOver writes over a list, its room too.
func writeOver[T any](list []T, what T) {
	list = list[:cap(list)]
	for i := range list {
		list[i] = what
	}
}

// ruin writes over all that puts have, their contents and the room of both too.
func ruin(batch []api.Put) {
	for _, p := range batch[:cap(batch)] {
		for _, list := range lists(p.C.F) {
			writeOver(list, api.Node{Kind: -7, S: "over"})
		}
	}
	writeOver(batch, api.Put{At: xy(9, 9), C: content("over")})
}

// roomy is a node whose lists have room, with something in it.
func roomy(n api.Node) api.Node {
	if len(n.Args) == 0 {
		return n
	}
	args := make([]api.Node, 0, len(n.Args)+3)
	for _, a := range n.Args {
		args = append(args, roomy(a))
	}
	writeOver(args[len(args):], api.Node{Kind: 77})
	n.Args = args
	return n
}

// roomyPuts are puts with room, and with contents with room.
func roomyPuts(list ...any) []api.Put {
	batch := make([]api.Put, 0, len(list)+5)
	for _, p := range puts(list...) {
		p.C.F = roomy(p.C.F)
		batch = append(batch, p)
	}
	writeOver(batch[len(batch):], api.Put{At: xy(7, 7), C: api.Content{Kind: 9}})
	return batch
}

// toldRoom is all that puts have, the room of their lists too.
func toldRoom(batch []api.Put) string {
	text := toldPuts(batch[:cap(batch)])
	for _, p := range batch {
		for _, list := range lists(p.C.F) {
			for _, n := range list {
				text += toldNode(n) + "\n"
			}
		}
	}
	return text
}

// worn is a book with steps behind it and ahead of it, with formulas in all of them.
func worn(t testing.TB) *edits.Book {
	t.Helper()
	b := edits.New()
	do(t, b, "A1", 2.0, "A2", "=SUM(A1,MAX(A1,3),IF(A1>1,2,3))", "A3", "=A2*2", "B1", "x")
	do(t, b, "A2", "=IF(SUM(A1,2)>3,-A1%,A1&B1)", "A3", nil, "B1", "=A1+1")
	is(t, "Become", b.Become(gridOf("A1", "=MAX(B1,B2)", "B1", "=1+2*3")), api.OK)
	do(t, b, "A1", "=MIN(B1,B2,7)")
	do(t, b, "A1", "=MIN(B1,B2,8)")
	for range 2 {
		is(t, "Undo", b.Undo(), api.OK)
	}
	counts(t, "worn", b, 3, 2)
	return b
}

// TestPutsAreNeitherChangedNorKept: taken, refused or no step, they are written over behind Do.
func TestPutsAreNeitherChangedNorKept(t *testing.T) {
	for i, list := range [][]any{
		{"D5", "=SUM(A1:A2,MAX(A1,A2))", "B1", "=IF(A2,1,2)", "A2", "y", "A1", nil},
		{"D5", "=SUM(A1:A2,MAX(A1,A2))", "A1", "=MAX(B1,A1)"}, // a circle
		{"D5", "=SUM(A1:A2,MAX(A1,A2))", "D5", "=1+2"},        // twice
		{"D5", "=SUM(A1:A2,MAX(A1,A2))", xy(0, 0), "=1+2"},
		{"A1", "=MAX(B1,B2)", "B1", "=1+2*3"}, // no step
	} {
		b := worn(t)
		batch := roomyPuts(list...)
		before := toldRoom(batch)
		b.Do(batch...)
		sameTold(t, fmt.Sprintf("R3: puts %d behind Do", i), toldRoom(batch), before)
		behind := toldBook(b)
		ruin(batch)
		sameTold(t, fmt.Sprintf("R3: the book, puts %d written over", i), toldBook(b), behind)
		do(t, b, "Z1", "=SUM(A1:D5)")
		fresh(t, "behind puts that were written over", b)
	}
}

// TestGridIsNeitherChangedNorKept: likewise of a grid and Become; what is done to the book, the grid doesn't see.
func TestGridIsNeitherChangedNorKept(t *testing.T) {
	for _, g := range []*grid.Grid{
		gridOf("A1", "=MAX(B1,B2,3)", "C1", 5.0),
		gridOf("A1", "=MAX(B1,B2)", "B1", "=1+2*3"), // no step
		gridOf("A1", "=MAX(B1,B2)", "B1", "=A1"),    // a circle
		gridBy(many(0, 300, func(i int) any { return fmt.Sprintf("=MAX(%d,Z9)", i) })),
		gridBy(ring(300)),
		grid.New(),
	} {
		b := worn(t)
		before := toldGrid(g)
		b.Become(g)
		sameTold(t, "R3: the grid behind Become", toldGrid(g), before)
		behind := toldBook(b)
		was := g.Clone()
		for at := range was.All() {
			g.Put(at, content("over"))
		}
		g.Put(cell("Y7"), content("over"))
		sameTold(t, "R3: the book, the grid put over", toldBook(b), behind)
		for at := range was.All() {
			g.Put(at, api.Content{})
		}
		sameTold(t, "R3: the book, the grid emptied", toldBook(b), behind)
		over := toldGrid(g)
		do(t, b, "A1", 8.0, "Y7", "=A1")
		b.Undo()
		b.Undo()
		sameTold(t, "R3: the grid, the book changed", toldGrid(g), over)
	}
}

// TestAnswersAreNewMemory: what Last and Sheet tell is written over; the book is as it was, and so are other answers.
func TestAnswersAreNewMemory(t *testing.T) {
	b := worn(t)
	for i := range 6 {
		about := fmt.Sprintf("step %d", i)
		was := toldBook(b)
		one, two := b.Last(), b.Last()
		other := toldPuts(two)
		ruin(one)
		_ = append(b.Last(), api.Put{})
		sameTold(t, "R3: "+about+": the book, Last written over", toldBook(b), was)
		sameTold(t, "R3: "+about+": another Last", toldPuts(two), other)
		for _, c := range b.Sheet().Cells() {
			for _, list := range lists(c.C.F) {
				writeOver(list, api.Node{Kind: -7})
			}
		}
		g := b.Sheet().Grid()
		for at := range g.Clone().All() {
			g.Put(at, content("over"))
		}
		sameTold(t, "R3: "+about+": the book, its Sheet written over", toldBook(b), was)
		if i < 3 {
			b.Undo()
		} else {
			b.Redo()
		}
	}
}

// TestLastSharesNothing: no two puts of one answer share a list, though what was put did.
func TestLastSharesNothing(t *testing.T) {
	same := api.Content{Kind: api.Formula, F: roomy(fx("SUM(A1:A3,MAX(A1,B2),IF(A1>1,2,3))").F)}
	for _, count := range []int{5, 300} {
		b := edits.New()
		is(t, "Become", b.Become(gridBy(many(5000, count, func(int) any { return same }))), api.OK)
		is(t, "Become", b.Become(grid.New()), api.OK)
		l := b.Last()
		if len(l) != count {
			t.Fatalf("P21.3: Last has %d puts, not %d", len(l), count)
		}
		want := toldContent(same)
		for i := range l {
			for _, p := range l[i:] {
				if toldContent(p.C) != want {
					t.Fatalf("R3: %s sees what is done to another one", name(p.At))
				}
			}
			for _, list := range lists(l[i].C.F) {
				writeOver(list, api.Node{Kind: -7})
			}
		}
		is(t, "Undo", b.Undo(), api.OK)
		sameTold(t, "R3: what is led back to", toldGrid(b.Sheet().Grid()), toldGrid(gridBy(many(5000, count, func(int) any { return same }))))
	}
}
