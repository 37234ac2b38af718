package links_test

import (
	"testing"

	"quadrille/api"
	"quadrille/links"
)

// P18.2: Users, Above.

func TestExamples(t *testing.T) {
	l := linksOf(t, "A1: B1:B2", "B1: C1", "B2:")
	same(t, "P18.2: Users(B1)", l.Users(cell("B1")), "A1")
	same(t, "P18.2: Users(C1)", l.Users(cell("C1")), "B1")
	same(t, "P18.2: Above(C1)", l.Above(cell("C1")), "A1 B1")
	same(t, "P18.2: Above(B2, C1)", l.Above(cells("B2 C1")...), "A1 B1")
	order(t, l, "A1 B1 B2", "B1 B2 A1")
	order(t, l, "A1", "A1")
	order(t, l, "C1 A1 C1", "A1 C1")
	ready(t, l, "A1 B1 B2", []int{-1}, "B2 B1 A1")
	circle(t, l, "")
	mustSet(t, l, cell("C1"), areas("A1:A1"))
	circle(t, l, "A1 B1 C1")
	order(t, l, "A1 B1 C1", "ErrCycle")
	order(t, l, "A1 B2", "B2 A1")
	same(t, "P18.2: Above(A1)", l.Above(cell("A1")), "A1 B1 C1")
	l.Drop(cell("C1"))
	mustSet(t, l, cell("D4"), areas("D1:D9"))
	circle(t, l, "D4")
}

func TestUsers(t *testing.T) {
	l := linksOf(t, "D4: B2:C3", "A9: C3:C9", "B1: C3 C3:D4", "C1: A1:IV4096", "C3:", "IV4096: C4")
	for at, want := range map[string]string{
		"C3": "B1 C1 D4 A9", "B2": "C1 D4", "C2": "C1 D4", "B3": "C1 D4", "A2": "C1", "D2": "C1", "B1": "C1", "B4": "C1",
		"D3": "B1 C1", "C4": "B1 C1 A9 IV4096", "D4": "B1 C1", "C9": "C1 A9", "C10": "C1", "C1": "C1", "IV4096": "C1", "A4096": "C1", "IV1": "C1",
	} {
		same(t, "P18.2: Users("+at+")", l.Users(cell(at)), want)
	}
	l.Drop(cell("C1"))
	for _, at := range cells("A1 A2 B4 D2 IV1 A4096 IV4096 C10 C1") {
		same(t, "P18.2: Users of what none uses", l.Users(at), "")
	}
}

// TestUsersOfManyCells: all cells use one, in any order of the map.
func TestUsersOfManyCells(t *testing.T) {
	l := full(t, 1000)
	var want []api.Addr
	for i := range 1000 {
		want = append(want, xy(1+i%256, 1+i/256))
	}
	sameCells(t, "P18.2: Users(A1)", l.Users(cell("A1")), want)
	sameCells(t, "P18.2: Above(A1)", l.Above(cell("A1")), want)
	same(t, "P18.2: Users(B1)", l.Users(cell("B1")), "")
	same(t, "P18.2: Above(B1)", l.Above(cell("B1")), "")
}

func TestAbove(t *testing.T) {
	l := linksOf(t, "B1: A1", "C1: B1", "D1: C1:C2", "E1: E1", "F1: E1", "A3: B3", "B3: A3", "C3: A3:B3", "H9:")
	for at, want := range map[string]string{
		"": "", "A1": "B1 C1 D1", "B1": "C1 D1", "C1": "D1", "C2": "D1", "D1": "", "E1": "E1 F1", "F1": "", "A3": "A3 B3 C3", "B3": "A3 B3 C3", "C3": "", "H9": "", "IV4096": "",
		"A1 A1": "B1 C1 D1", "A1 B1": "B1 C1 D1", "B1 A1 B1 A1": "B1 C1 D1", "D1 C2 F1": "D1", "C1 C2": "D1", "A3 B3": "A3 B3 C3", "A3 A1": "B1 C1 D1 A3 B3 C3", "C3 E1": "E1 F1", "A1 E1 A3": "B1 C1 D1 E1 F1 A3 B3 C3",
	} {
		same(t, "P18.2: Above("+at+")", l.Above(cells(at)...), want)
	}
}

// TestOverCellsThatAreNotSet: what is not set hangs on nothing, though others use it.
func TestOverCellsThatAreNotSet(t *testing.T) {
	l := linksOf(t, "A1: B1", "C1: D1", "D1: A1")
	same(t, "P18.2: Above(C1)", l.Above(cell("C1")), "")
	same(t, "P18.2: Above(B1)", l.Above(cell("B1")), "A1 C1 D1")
	circle(t, l, "")
	mustSet(t, l, cell("B1"), areas("C1"))
	same(t, "P18.2: Above(C1)", l.Above(cell("C1")), "A1 B1 C1 D1")
	circle(t, l, "A1 B1 C1 D1")
	l.Drop(cell("B1"))
	same(t, "P18.2: Above(C1)", l.Above(cell("C1")), "")
	order(t, l, "A1 B1 C1 D1", "B1 A1 D1 C1")
}

// chainOf are links of so many cells, each of which uses the next one, by rows of some columns; the last one uses whatever is said.
func chainOf(t *testing.T, n, cols int, last []api.Area) (*links.Links, []api.Addr) {
	t.Helper()
	l := links.New()
	var list []api.Addr
	for i := range n {
		list = append(list, xy(1+i%cols, 1+i/cols))
	}
	for i, at := range list {
		uses := last
		if i+1 < n {
			uses = []api.Area{{From: list[i+1], To: list[i+1]}}
		}
		mustSet(t, l, at, uses)
	}
	return l, list
}

func TestLongChains(t *testing.T) {
	for _, n := range []int{2, 63, 64, 65, 127, 128, 129, 4096} {
		for _, cols := range []int{1, 7, 64, 256} {
			l, list := chainOf(t, n, cols, nil)
			sameCells(t, "P18.2: Above of a chain's end", l.Above(list[n-1]), list[:n-1])
			sameCells(t, "P18.2: Above of its middle", l.Above(list[n/2]), list[:n/2])
			circle(t, l, "")
			got, err := l.Order(list)
			backwards(got)
			if err != api.OK {
				t.Errorf("P18.4: Order of a chain of %d: %d", n, err)
			}
			sameCells(t, "P18.4: Order of a chain, backwards", got, list)
			mustSet(t, l, list[n-1], areas("A1"))
			got, is := l.Circle()
			if !is {
				t.Errorf("P18.3: no circle of %d", n)
			}
			sameCells(t, "P18.3: Circle of a ring", got, list)
			sameCells(t, "P18.2: Above of a ring", l.Above(list[n/2]), list)
			if got, err := l.Order(list); err != api.ErrCycle || len(got) > 0 {
				t.Errorf("P18.4: Order of a ring of %d: %d", n, err)
			}
		}
	}
}

func backwards(l []api.Addr) {
	for i, j := 0, len(l)-1; i < j; i, j = i+1, j-1 {
		l[i], l[j] = l[j], l[i]
	}
}
