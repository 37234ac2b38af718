package links_test

import (
	"testing"

	"quadrille/api"
)

// P18.3: Circle.

func TestCircles(t *testing.T) {
	for _, c := range []struct {
		lines []string
		want  string
	}{
		{nil, ""},
		{[]string{"A1:"}, ""},
		{[]string{"A1: A2:IV4096"}, ""},
		{[]string{"A1: B1", "B1: C1"}, ""},
		{[]string{"A1: B1 C1", "B1: C1 D1", "C1: D1", "D1:"}, ""},
		{[]string{"A1: A1"}, "A1"},
		{[]string{"B7: A1:IV4096"}, "B7"},
		{[]string{"IV4096: IV4096"}, "IV4096"},
		{[]string{"A1: B1", "B1: A1"}, "A1 B1"},
		{[]string{"C1: B1", "B1: C1"}, "B1 C1"},
		// The first one in order is by its row, then by its column.
		{[]string{"A2: A2", "B1: B1"}, "B1"},
		{[]string{"A2: Z1", "Z1: A2"}, "Z1 A2"},
		// Its second cell may stand ahead of nothing else: it is the first one's next, not the next one in order.
		{[]string{"A1: C1", "C1: B1", "B1: A1"}, "A1 C1 B1"},
		// The first cell uses itself and stands in a longer circle too.
		{[]string{"A1: A1:B1", "B1: A1"}, "A1"},
		// Cells that hang on a circle, and are in none.
		{[]string{"A1: B1", "B1: B1"}, "B1"},
		{[]string{"A1: B1", "B1: C1", "C1: D1", "D1: C1"}, "C1 D1"},
		{[]string{"A1: D1", "B1: A1", "C1: D1", "D1: C1"}, "C1 D1"},
		// On which a circle hangs.
		{[]string{"A1:", "B1: A1 C1", "C1: B1"}, "B1 C1"},
		// Between two circles.
		{[]string{"A1: B2", "B2: C3", "C3: B2", "A2: D4 A1", "D4: A2"}, "A2 D4"},
		{[]string{"E5: A1 F6", "F6: E5", "A1: G7", "G7: H8", "H8: G7"}, "E5 F6"},
		// Several circles: of the first cell, though others are shorter.
		{[]string{"A1: B1", "B1: C1", "C1: A1", "D1: D1", "A2: B2", "B2: A2"}, "A1 B1 C1"},
		// The shortest one that begins with it, though another one stands ahead.
		{[]string{"A1: B1 D1", "B1: C1", "C1: A1", "D1: A1"}, "A1 D1"},
		{[]string{"A1: B1:Z1", "B1: C1", "C1: D1", "D1: A1", "Y1: Z1", "Z1: A1"}, "A1 D1"},
		// Of those as short the one whose second cell, third cell stands first.
		{[]string{"A1: B1:C1", "B1: D1", "C1: D1", "D1: A1"}, "A1 B1 D1"},
		{[]string{"A1: B1:C1", "B1: A2", "C1: D1", "D1: A1", "A2: A1"}, "A1 B1 A2"},
		{[]string{"A1: B1:C1", "B1: A2", "C1: D1", "D1: A1", "A2:"}, "A1 C1 D1"},
		{[]string{"A1: B1", "B1: C1:E1", "C1: C1", "D1: A2", "E1: A2", "A2: A1"}, "A1 B1 D1 A2"},
		{[]string{"A1: B1", "B1: C1:E1", "C1: F1:G1", "D1: F1", "E1: A2", "F1: A1", "G1: A1", "A2: A1"}, "A1 B1 C1 F1"},
		// By row ahead of column.
		{[]string{"A1: A3:B3 Z2", "A3: A1", "B3: A1", "Z2: A1"}, "A1 Z2"},
		// Through cells that are not set there is none.
		{[]string{"A1: B1", "C1: A1"}, ""},
		// A circle within a circle.
		{[]string{"A1: B1", "B1: C1", "C1: B1 D1", "D1: A1"}, "A1 B1 C1 D1"},
		{[]string{"A1: B1", "B1: C1", "C1: C1 D1", "D1: A1 C1"}, "A1 B1 C1 D1"},
	} {
		circle(t, linksOf(t, c.lines...), c.want)
		// Laid down in another order they tell the same.
		var back []string
		for _, line := range c.lines {
			back = append([]string{line}, back...)
		}
		circle(t, linksOf(t, back...), c.want)
	}
}

// TestCircleOfAll: each cell uses all cells; and all but itself.
func TestCircleOfAll(t *testing.T) {
	l := full(t, 700)
	for i := range 700 {
		mustSet(t, l, xy(1+i%256, 1+i/256), areas("A1:IV4096"))
	}
	circle(t, l, "A1")
	mustSet(t, l, cell("A1"), areas("B1:IV4096"))
	circle(t, l, "A1 B1")
	mustSet(t, l, cell("A1"), areas("A2:A9"))
	circle(t, l, "A1 A2")
	mustSet(t, l, cell("A1"), areas("A4:IV4096"))
	circle(t, l, "B1")
	l.Drop(cell("B1"))
	circle(t, l, "C1")
}

// TestCircleAmongMany: a ladder of pairs, each of which uses both of the next pair, has very many circles as short.
func TestCircleAmongMany(t *testing.T) {
	l := linksOf(t, "A1: B2:C2")
	want := cells("A1")
	for row := 2; row <= 1000; row++ {
		next := []api.Area{{From: xy(2, row+1), To: xy(3, row+1)}}
		if row == 1000 {
			next = areas("A1")
		}
		mustSet(t, l, xy(2, row), next)
		mustSet(t, l, xy(3, row), next)
		want = append(want, xy(2, row))
	}
	got, is := l.Circle()
	if !is {
		t.Error("P18.3: no circle")
	}
	sameCells(t, "P18.3: Circle of a ladder", got, want)
}
