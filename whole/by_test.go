package whole_test

import (
	"fmt"
	"math"
	"testing"

	"quadrille/api"
	"quadrille/whole"
)

// P19.2: By.

func TestPicks(t *testing.T) {
	g := example(t)
	for _, c := range []struct {
		picks []int
		want  string
	}{
		{nil, "A1 A2 B2 A3 B1"},
		{[]int{}, "A1 A2 B2 A3 B1"},
		{[]int{0}, "A1 A2 B2 A3 B1"},
		{[]int{1}, "A1 B2 A2 A3 B1"},
		{[]int{-1}, "A1 B2 A2 A3 B1"},
		{[]int{-2}, "A1 A2 B2 A3 B1"},
		{[]int{2}, "A1 A2 B2 A3 B1"},
		{[]int{0, 1}, "A1 A2 A3 B1 B2"},
		{[]int{0, -1}, "A1 A2 A3 B1 B2"},
		{[]int{0, 1, 1}, "A1 A2 A3 B2 B1"},
		// As many as there are formulas, and more.
		{[]int{0, 1, 0, 5}, "A1 A2 A3 B1 B2"},
		{[]int{1, 9, 9, 9, 9, 9, 9}, "A1 B2 A2 A3 B1"},
		// The least int is even, the greatest one is odd.
		{[]int{math.MinInt, math.MaxInt}, "A1 A2 A3 B1 B2"},
		{[]int{math.MaxInt, math.MinInt}, "A1 B2 A2 A3 B1"},
		{[]int{math.MinInt + 1}, "A1 B2 A2 A3 B1"},
	} {
		l, err := whole.By(g, c.picks)
		if err != api.OK {
			t.Errorf("P19.2: By(%v): error %d", c.picks, err)
		}
		sameCells(t, fmt.Sprintf("P19.2: By(%v)", c.picks), places(l), cells(c.want))
		sameTold(t, fmt.Sprintf("P19.5: By(%v), in order", c.picks), told(inOrder(l)), told(mustCalc(t, g)))
	}
}

// TestPlainOnesFirst: plain cells stand ahead of all formulas, whichever cells these have.
func TestPlainOnesFirst(t *testing.T) {
	g := gridOf(t, "A1", "=C3", "B1", 1.0, "A2", "=B1", "B2", "x", "A3", true, "C3", "=A3", "D4", api.FaultRef, "A5", "=1")
	for _, c := range []struct {
		picks []int
		want  string
	}{
		{nil, "B1 B2 A3 D4 A2 C3 A1 A5"},
		{[]int{-1, -1, -1, -1}, "B1 B2 A3 D4 A5 C3 A2 A1"},
		{[]int{1}, "B1 B2 A3 D4 C3 A1 A2 A5"},
	} {
		l, err := whole.By(g, c.picks)
		if err != api.OK {
			t.Errorf("P19.2: error %d", err)
		}
		sameCells(t, fmt.Sprintf("P19.2: By(%v)", c.picks), places(l), cells(c.want))
	}
	g = gridOf(t, "B1", 1.0, "A1", 2.0)
	if l, err := whole.By(g, []int{5}); err != api.OK || names(places(l)) != "A1 B1" {
		t.Errorf("P19.2: By of plain ones: %s, %d", names(places(l)), err)
	}
	g = gridOf(t, "B1", "=A1", "A1", "=2")
	if l, err := whole.By(g, []int{-1}); err != api.OK || names(places(l)) != "A1 B1" {
		t.Errorf("P19.2: By of formulas: %s, %d", names(places(l)), err)
	}
}

// TestEachBehindWhatItUses: in a sheet of as many cells as may be, by picks of many sorts.
func TestEachBehindWhatItUses(t *testing.T) {
	for _, c := range longs(t)[2:4] {
		for _, pick := range []int{0, -1, 1, 1000, math.MinInt, math.MaxInt} {
			picks := make([]int, 5000)
			for i := range picks {
				picks[i] = pick
			}
			l, err := whole.By(c.g, picks)
			if err != api.OK || len(l) != c.g.Len() {
				t.Errorf("P19.2: %s: %d cells, error %d", c.name, len(l), err)
			}
			turn := map[api.Addr]int{}
			for i, one := range l {
				turn[one.At] = i
			}
			for _, one := range l {
				for _, a := range []string{"A", "B"} {
					// The ladder's formulas use both cells of the row ahead.
					at := cell(fmt.Sprintf("%s%d", a, max(1, one.At.Row-1)))
					if c.name == "a ladder" && one.C.Kind == api.Formula && turn[at] > turn[one.At] {
						t.Fatalf("P19.2: %s stands ahead of %s, which it uses", name(one.At), name(at))
					}
				}
			}
			if c.name != "a ladder" && l[0].At != cell("IV4096") {
				t.Errorf("P19.2: %s stands first", name(l[0].At))
			}
		}
	}
}
