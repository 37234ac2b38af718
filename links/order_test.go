package links_test

import (
	"fmt"
	"slices"
	"testing"

	"quadrille/api"
	"quadrille/links"
)

// P18.4: Order, Ready.

func TestOrder(t *testing.T) {
	l := linksOf(t, "A1: B1 D4", "B1: C1", "D4: C1:C9", "A2: B2", "B2: A2", "C2: A2", "D2: D2", "E5:", "F6: E5")
	for at, want := range map[string]string{
		"": "", "A1": "A1", "A1 A1 A1": "A1", "C1": "C1", "IV4096 A1": "A1 IV4096",
		"A1 B1": "B1 A1", "B1 A1 B1": "B1 A1", "A1 C1": "A1 C1", "A1 B1 C1": "C1 B1 A1", "A1 C9": "A1 C9", "A1 D4 C9": "C9 D4 A1", "A1 B1 C1 D4": "C1 B1 D4 A1",
		// Not set, and used or not.
		"Z9 B9 A9": "A9 B9 Z9", "A3 F6 E5 B1": "B1 A3 E5 F6", "F6": "F6", "F6 E5 F6 E5": "E5 F6",
		// A part of a circle, all of it, what hangs on it.
		"A2": "A2", "B2": "B2", "C2": "C2", "A2 B2": "ErrCycle", "B2 A2 E5": "ErrCycle", "A2 C2": "A2 C2", "C2 B2": "B2 C2", "D2": "ErrCycle", "A1 D2": "ErrCycle", "D2 IV4096": "ErrCycle", "A2 B2 C2": "ErrCycle", "D2 D2": "ErrCycle",
	} {
		order(t, l, at, want)
		ready(t, l, at, nil, want)
		ready(t, l, at, []int{}, want)
		ready(t, l, at, []int{0, 0, 0, 0, 0, 0}, want)
	}
}

// TestOrderIsOfTheFirst: as soon as a cell may be told, it goes ahead of those behind it.
func TestOrderIsOfTheFirst(t *testing.T) {
	l := linksOf(t, "A1: C1", "B1:", "C1:", "D1:", "A2: A1", "B2: A2")
	order(t, l, "A1 B1 C1 D1 A2 B2", "B1 C1 A1 D1 A2 B2")
	l = linksOf(t, "A1: C3", "A2: A1", "C3: Z9")
	order(t, l, "A1 A2 B2 C3 D3 Z9", "B2 D3 Z9 C3 A1 A2")
	order(t, l, "A1 A2 B2 C3 D3", "B2 C3 A1 A2 D3")
}

func TestReadyPicks(t *testing.T) {
	l := linksOf(t, "A1: B1:B2", "B1: C1", "C2: A1")
	all := "A1 B1 B2 C1 C2 D9" // of which B2, C1 and D9 may be first
	for _, c := range []struct {
		picks []int
		want  string
	}{
		{nil, "C1 B1 B2 A1 C2 D9"},
		{[]int{0}, "C1 B1 B2 A1 C2 D9"},
		{[]int{1}, "B2 C1 B1 A1 C2 D9"},
		{[]int{2}, "D9 C1 B1 B2 A1 C2"},
		{[]int{3}, "C1 B1 B2 A1 C2 D9"},
		{[]int{4}, "B2 C1 B1 A1 C2 D9"},
		{[]int{-1}, "D9 C1 B1 B2 A1 C2"},
		{[]int{-2}, "B2 C1 B1 A1 C2 D9"},
		{[]int{-3}, "C1 B1 B2 A1 C2 D9"},
		{[]int{-4}, "D9 C1 B1 B2 A1 C2"},
		{[]int{-1, -1, -1, -1, -1, -1}, "D9 B2 C1 B1 A1 C2"},
		{[]int{-1, -1, -1, -1, -1, -1, -1, 7, least}, "D9 B2 C1 B1 A1 C2"},
		{[]int{0, 1, 1}, "C1 B2 D9 B1 A1 C2"},
		{[]int{0, -1, 0, -1}, "C1 D9 B1 B2 A1 C2"},
		// 2^63 - 1 and -2^63 round 3: 1 and, of what is left, 1.
		{[]int{greatest}, "B2 C1 B1 A1 C2 D9"},
		{[]int{least}, "B2 C1 B1 A1 C2 D9"},
		{[]int{least + 1}, "D9 C1 B1 B2 A1 C2"},
		{[]int{greatest - 1}, "C1 B1 B2 A1 C2 D9"},
	} {
		ready(t, l, all, c.picks, c.want)
	}
	ready(t, l, "", []int{1, 2, 3}, "")
	ready(t, l, "C1", []int{greatest, least}, "C1")
	mustSet(t, l, cell("C1"), areas("A1"))
	for _, p := range []int{0, 1, -1, least, greatest} {
		ready(t, l, all, []int{p, p, p, p, p, p, p}, "ErrCycle")
		ready(t, l, "A1 B1 B2 D9", []int{p, p, p, p, p, p, p}, map[int]string{0: "B1 B2 A1 D9", 1: "B2 D9 B1 A1", -1: "D9 B2 B1 A1", least: "B2 B1 A1 D9", greatest: "B2 D9 B1 A1"}[p])
	}
}

// TestReadyRound: among cells none of which uses another one the k-th pick counts round those that are left.
func TestReadyRound(t *testing.T) {
	l := links.New()
	for _, n := range []int{1, 2, 3, 7, 63, 64, 65, 100, 128, 129} {
		var list []api.Addr
		for i := range n {
			list = append(list, xy(1+i%9, 1+i/9))
		}
		for _, p := range []int{0, 1, 2, 5, 63, 64, 1000, -1, -2, -64, -1000, 1 << 40, -1 << 40, least, least + 1, greatest} {
			left := slices.Clone(list)
			var want []api.Addr
			picks := make([]int, n)
			for k := range n {
				picks[k] = p
				// By whole numbers of either sign: what is left of p, taken up to 0 or above.
				place := p % len(left)
				if place < 0 {
					place += len(left)
				}
				want = append(want, left[place])
				left = slices.Delete(left, place, place+1)
			}
			got, err := l.Ready(list, picks)
			if err != api.OK {
				t.Errorf("P18.4: Ready of %d by %d: error %d", n, p, err)
			}
			sameCells(t, fmt.Sprintf("P18.4: Ready of %d by %d", n, p), got, want)
		}
	}
}

// TestOrderOfAllCells: a million cells, the greatest areas, the least and the last cells.
func TestOrderOfAllCells(t *testing.T) {
	l := linksOf(t, "A1: B1:IV4096", "IV4096: A2:IV4095", "B1: C1:IV1 A2:IV4095")
	var all, want []api.Addr
	for row := 1; row <= 4096; row++ {
		for col := 1; col <= 256; col++ {
			all = append(all, xy(col, row))
			if at := xy(col, row); at != cell("A1") && at != cell("B1") && at != cell("IV4096") {
				want = append(want, at)
			}
		}
	}
	// B1 waits for the row 4095, and goes ahead of the row 4096; A1 waits for all.
	i := slices.Index(want, xy(1, 4096))
	want = slices.Insert(want, i, cell("B1"))
	want = append(want, cell("IV4096"), cell("A1"))
	got, err := l.Order(all)
	if err != api.OK {
		t.Fatalf("P18.4: Order of all cells: %d", err)
	}
	sameCells(t, "P18.4: Order of all cells", got, want)
	backwards(all)
	got, _ = l.Order(append(all, all[:1000]...))
	sameCells(t, "P18.4: Order of all cells, handed in backwards", got, want)
	mustSet(t, l, cell("C7"), areas("A1"))
	if got, err := l.Order(all); err != api.ErrCycle || len(got) > 0 {
		t.Errorf("P18.4: Order of all cells with a circle: %d cells, %d", len(got), err)
	}
	if got := l.Above(all...); names(got) != "A1 B1 C7 IV4096" {
		t.Errorf("P18.2: Above of all cells: %s", names(got))
	}
}

// TestOrderOfTheGreatest: MaxCells cells, each with MaxNodes areas of all rows ahead of its own.
func TestOrderOfTheGreatest(t *testing.T) {
	l := links.New()
	var list []api.Addr
	for i := range 4096 {
		at := xy(1+i%2, 1+i/2)
		list = append(list, at)
		var uses []api.Area
		for col := range 256 {
			if at.Row > 1 {
				uses = append(uses, api.Area{From: xy(1+col, 1), To: xy(1+col, at.Row-1)})
			}
		}
		mustSet(t, l, at, uses)
	}
	circle(t, l, "")
	got, err := l.Order(list)
	if err != api.OK {
		t.Fatalf("P18.4: Order: %d", err)
	}
	sameCells(t, "P18.4: Order of the greatest", got, list)
	picks := slices.Repeat([]int{1}, 4096)
	want := slices.Clone(list)
	for i := 0; i < len(want); i += 2 {
		want[i], want[i+1] = want[i+1], want[i]
	}
	got, err = l.Ready(list, picks)
	if err != api.OK {
		t.Fatalf("P18.4: Ready: %d", err)
	}
	sameCells(t, "P18.4: Ready of the greatest", got, want)
	sameCells(t, "P18.2: Above of the greatest", l.Above(list[0]), list[2:])
}
