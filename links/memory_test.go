package links_test

import (
	"slices"
	"testing"

	"quadrille/api"
	"quadrille/links"
)

// P18.5: Copy; and R3: what is handed in and out.

func TestCopy(t *testing.T) {
	at := within(4, 4)
	l := linksOf(t, "A1: B1:B2", "B1: C1", "B2:", "D4: A1")
	was := told(l, at...)
	for _, change := range []func(l *links.Links){
		func(l *links.Links) { mustSet(t, l, cell("C1"), areas("A1")) },
		func(l *links.Links) { mustSet(t, l, cell("A1"), areas("C3")) },
		func(l *links.Links) { mustSet(t, l, cell("A1"), nil) },
		func(l *links.Links) { mustSet(t, l, cell("B2"), areas("B2")) },
		func(l *links.Links) { l.Drop(cell("B1")) },
		func(l *links.Links) { l.Drop(cell("B2")) },
		func(l *links.Links) {
			for _, one := range at {
				l.Drop(one)
			}
		},
	} {
		c := l.Copy()
		if told(c, at...) != was {
			t.Error("P18.5: a Copy tells something else")
		}
		d := c.Copy()
		change(c)
		if told(l, at...) != was || told(d, at...) != was {
			t.Error("P18.5: what was copied sees what is done to its Copy")
		}
		if told(c, at...) == was {
			t.Error("P18.5: a Copy is not changed by what is done to it")
		}
		now := told(c, at...)
		e := c.Copy()
		mustSet(t, c, cell("A1"), areas("A1 D4"))
		c.Drop(cell("D4"))
		if told(e, at...) != now {
			t.Error("P18.5: a Copy sees what is done to what was copied")
		}
	}
}

func TestCopyOfFull(t *testing.T) {
	l := full(t, 4096)
	c := l.Copy()
	if c.Len() != 4096 || c.Set(cell("A17"), nil) != api.ErrFull {
		t.Error("P18.5: a Copy of full links is not full")
	}
	l.Drop(cell("C3"))
	if c.Len() != 4096 || c.Set(cell("A17"), nil) != api.ErrFull || l.Set(cell("A17"), nil) != api.OK || c.Drop(cell("A17")) {
		t.Error("P18.5: a Copy sees what is done to what was copied")
	}
}

func TestSideBySide(t *testing.T) {
	l, m := links.New(), links.New()
	mustSet(t, l, cell("A1"), areas("B1"))
	if m.Len() != 0 || len(m.Users(cell("B1"))) > 0 {
		t.Error("P18.1: one sees what is laid down in another one")
	}
	mustSet(t, m, cell("B1"), areas("A1"))
	circle(t, l, "")
	circle(t, m, "")
	same(t, "P18.2: Above(B1)", l.Above(cell("B1")), "A1")
	same(t, "P18.2: Above(A1)", m.Above(cell("A1")), "B1")
}

// TestHandedIn: what is handed in stays as it was, its room too, and is not kept.
func TestHandedIn(t *testing.T) {
	at := within(5, 5)
	other := areas("C4:D5")[0]
	for _, text := range []string{"", "B2", "C3 B2:B9 A1:B2 B2 A1:A9 C3 C3", "A1 B1 C1", "A5 A4 A3 A2 A1:A2"} {
		l := linksOf(t, "B2: C3", "C3: D4")
		uses := roomy(areas(text), other)
		was := slices.Clone(uses[:cap(uses)])
		mustSet(t, l, cell("E5"), uses)
		if !slices.Equal(uses[:cap(uses)], was) {
			t.Errorf("R3: Set has changed what was handed in: %s", text)
		}
		now := told(l, at...)
		writeOver(uses, other)
		if told(l, at...) != now {
			t.Errorf("R3: Set has kept what was handed in: %s", text)
		}
	}
	l := linksOf(t, "B2: C3", "C3: D4", "D4: E5")
	now := told(l, at...)
	for _, text := range []string{"", "D4", "E5 D4 C3 B2 E5 A1", "B2 B2 B2", "D4 C3"} {
		list, picks := roomy(cells(text), cell("Z9")), roomy([]int{5, -3, 2}, 77)
		wasList, wasPicks := slices.Clone(list[:cap(list)]), slices.Clone(picks[:cap(picks)])
		above := l.Above(list...)
		first, _ := l.Order(list)
		second, _ := l.Ready(list, picks)
		if !slices.Equal(list[:cap(list)], wasList) || !slices.Equal(picks[:cap(picks)], wasPicks) {
			t.Errorf("R3: what was handed in has changed: %s", text)
		}
		wants := [][]api.Addr{slices.Clone(above), slices.Clone(first), slices.Clone(second)}
		writeOver(list, cell("Z9"))
		writeOver(picks, 9)
		for i, got := range [][]api.Addr{above, first, second} {
			sameCells(t, "R3: an answer hangs on what was handed in", got, wants[i])
		}
	}
	if told(l, at...) != now {
		t.Error("R3: a question has changed something")
	}
}

// TestHandedOut: what is told may be written over.
func TestHandedOut(t *testing.T) {
	at := within(5, 5)
	for _, lines := range [][]string{
		{"A1: B1:B2 C3", "B1: C1", "B2:", "D4: A1:B2"},
		{"A1: B1:B2 C3", "B1: C1", "B2:", "D4: A1:B2", "C1: A1"},
	} {
		l := linksOf(t, lines...)
		was := told(l, at...)
		for _, one := range at {
			writeOver(l.Uses(one), areas("A1")[0])
			writeOver(l.Users(one), cell("E5"))
			writeOver(l.Above(one), cell("E5"))
		}
		c, _ := l.Circle()
		writeOver(c, cell("E5"))
		for _, list := range [][]api.Addr{at, at[:3], at[5:]} {
			o, _ := l.Order(list)
			writeOver(o, cell("E5"))
			r, _ := l.Ready(list, []int{1, -1})
			writeOver(r, cell("E5"))
			writeOver(l.Above(list...), cell("E5"))
		}
		if told(l, at...) != was {
			t.Error("R3: what is told can be written over")
		}
		// Two answers share nothing.
		one, two := l.Uses(cell("A1")), l.Uses(cell("A1"))
		writeOver(one, areas("Z9")[0])
		sameAreas(t, "R3: Uses told twice", two, areas("B1:B2 C3"))
		_ = append(two[:1], areas("Z9")...)
		sameAreas(t, "R3: Uses, behind what was added to it", l.Uses(cell("A1")), areas("B1:B2 C3"))
	}
}
