package lines_test

import (
	"strings"
	"sync"
	"testing"

	"quadrille/api"
	"quadrille/grid"
	"quadrille/lines"
)

// R3: what is handed in is neither changed nor kept, and what is answered is new memory. R4: the same is answered each time.

// roomy is a node with spare room behind its lists, in which something stands.
func roomy(n api.Node) api.Node {
	args := make([]api.Node, 0, len(n.Args)+2)
	for _, a := range n.Args {
		args = append(args, roomy(a))
	}
	_ = append(args, api.Node{S: "spare"}, api.Node{S: "room"})
	n.Args = args
	return n
}

// toldRoom is a node and what stands in its lists' spare room.
func toldRoom(n api.Node) string {
	s := toldNode(n)
	for _, a := range n.Args {
		s += toldRoom(a)
	}
	for _, a := range n.Args[len(n.Args):cap(n.Args)] {
		s += "/" + a.S
	}
	return s
}

// spoil writes over a node's lists, spare room too.
func spoil(n api.Node) {
	all := n.Args[:cap(n.Args)]
	for i := range all {
		spoil(all[i])
		all[i] = api.Node{Kind: 77, S: "spoilt"}
	}
}

func TestArgumentsStay(t *testing.T) {
	c := api.Content{Kind: api.Formula, F: roomy(tree("SUM(A1:B2,-C3)&\"x\""))}
	was := toldRoom(c.F)
	types(t, c, "=SUM(A1:B2,-C3)&\"x\"")
	if toldRoom(c.F) != was {
		t.Error("R3: Typed has changed what was handed in")
	}
	l := make([]api.Cell, 0, 9)
	l = append(l, shows("B1", num(2)), shows("A1", num(1)), shows("B1", text("x")))
	_ = append(l, shows("A1", num(7)), shows("B1", num(7)))
	tables(t, l, area("A1:B1"), general, "1,x\n")
	noTable(t, l, area("A1:B1"), api.Format{}, api.ErrArg)
	for i, want := range []float64{2, 1, 0, 7, 7} {
		if l[:5][i].V.X != want {
			t.Errorf("R3: Table has changed cell %d of what was handed in", i)
		}
	}
}

func TestAnswersAreNew(t *testing.T) {
	typed := "=SUM(A1:B2,-C3)&\"x\""
	first, _ := lines.Entry(typed)
	second, _ := lines.Entry(typed)
	was := told(second)
	spoil(first.F)
	if told(second) != was {
		t.Error("R3: two answers of Entry share memory")
	}
	entry(t, typed, second)

	s := head + "A1 1\nB1 " + typed + "\nend 2\n"
	g, _ := lines.Read(s)
	h, _ := lines.Read(s)
	put(g, cell("A1"), text("other"))
	spoil(g.Get(cell("B1")).F)
	if again, err := lines.Write(h); err != api.OK || again != s {
		t.Errorf("R3: two grids that were read share memory: %q, error %d", again, err)
	}

	puts, _ := lines.Numbers("1,x\n2", cell("A1"))
	other, _ := lines.Numbers("1,x\n2", cell("A1"))
	was = toldPuts(other)
	for i := range puts[:cap(puts)] {
		puts[:cap(puts)][i] = api.Put{At: xy(9, 9), C: text("spoilt")}
	}
	if toldPuts(other) != was {
		t.Error("R3: two answers of Numbers share memory")
	}
	reads(t, "1,x\n2", "A1", "A1", num(1), "B1", text("x"), "A2", num(2))
}

// The grid that Read answers is one like any other.
func TestReadIsAGrid(t *testing.T) {
	g, bad := lines.Read(head + "A1 1\nend 1\n")
	if bad != (api.Mishap{}) {
		t.Fatal(bad)
	}
	put(g, cell("B2"), form("A1"))
	put(g, cell("A1"), api.Content{})
	writes(t, g, head+"B2 =A1\nend 1\n")
	if !g.Equal(gridOf("B2", form("A1"))) || g.Equal(grid.New()) {
		t.Error("P23.4: the grid that was read is no grid like others")
	}
}

// Calls side by side have nothing to do with each other.
func TestSideBySide(t *testing.T) {
	g := gridOf("A1", num(.1), "B1", text("a\\b\n"), "A2", form("SUM(A1:B1)*2"))
	want, err := lines.Write(g)
	if err != api.OK {
		t.Fatal(err)
	}
	var all sync.WaitGroup
	bad := make([]bool, 8)
	for i := range bad {
		all.Go(func() {
			for range 50 {
				s, _ := lines.Write(g)
				h, _ := lines.Read(want)
				table, _ := lines.Table([]api.Cell{shows("A1", num(1))}, area("A1:B1"), general)
				puts, _ := lines.Numbers(strings.Repeat("1,x\n", 9), cell("A1"))
				c, _ := lines.Entry("=A1")
				bad[i] = bad[i] || s != want || !g.Equal(h) || table != "1,\n" || len(puts) != 18 || !grid.Same(c, form("A1"))
			}
		})
	}
	all.Wait()
	for i, is := range bad {
		if is {
			t.Errorf("R4: goroutine %d got another answer", i)
		}
	}
}
