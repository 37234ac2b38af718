package lines_test

import (
	"fmt"
	"math"
	"math/rand"
	"strings"
	"testing"

	"quadrille/addr"
	"quadrille/api"
	"quadrille/grid"
	"quadrille/lines"
	"quadrille/whole"
)

// P23.7: what follows.

func TestTypedAndBack(t *testing.T) {
	r := chance{rand.New(rand.NewSource(1))}
	kinds := map[string]int{}
	for range 40000 {
		c := r.content()
		if r.Intn(5) == 0 && c.Kind == api.Plain && c.V.Kind == api.Text {
			c.V.S = draw(r, []string{" ", "  ", "'", "="}) + c.V.S
		}
		s, err := lines.Typed(c)
		if err != api.OK {
			t.Fatalf("P23.2: Typed(%s): error %d", told(c), err)
		}
		back, bad := lines.Entry(s)
		if bad != (api.Mishap{}) || told(back) != told(c) {
			t.Fatalf("P23.7: Entry(%q): %s, error %d, not %s", s, told(back), bad.Code, told(c))
		}
		// What is typed has a ' ahead only where it needs one.
		if rest, is := strings.CutPrefix(s, "'"); is {
			if plain, bad := lines.Entry(rest); bad == (api.Mishap{}) && grid.Same(plain, c) {
				t.Fatalf("P23.2: Typed(%s): %q needs no '", told(c), s)
			}
		}
		kinds[fmt.Sprint(c.Kind, c.V.Kind, strings.HasPrefix(s, "'"))]++
	}
	if len(kinds) != 6 {
		t.Errorf("too few kinds of contents: %v", kinds)
	}
}

func TestEntryAndBack(t *testing.T) {
	r := chance{rand.New(rand.NewSource(2))}
	for range 30000 {
		c, bad := lines.Entry(r.text())
		if bad.Code != api.OK {
			continue
		}
		s, err := lines.Typed(c)
		if again, bad := lines.Entry(s); err != api.OK || bad.Code != api.OK || told(again) != told(c) {
			t.Fatalf("P23.7: Entry(%q): %s, error %d, not %s", s, told(again), err, told(c))
		}
	}
}

func TestWriteAndBack(t *testing.T) {
	r := chance{rand.New(rand.NewSource(3))}
	for range 8000 {
		g := r.grid()
		s, err := lines.Write(g)
		h, bad := lines.Read(s)
		if err != api.OK || bad != (api.Mishap{}) || toldGrid(h) != toldGrid(g) {
			t.Fatalf("P23.7: Read of Write: %s, error %d, %d at %d, not %s", short(toldGrid(h)), err, bad.Code, bad.At, short(toldGrid(g)))
		}
		if again, err := lines.Write(h); err != api.OK || again != s {
			t.Fatalf("P23.7: Write of Read(%q): %q, error %d", s, again, err)
		}
		seenWell(t, s)
		oneMore(t, r, g, s)
	}
}

// seenWell asks that no line has a byte below 32, or 127.
func seenWell(t *testing.T, s string) {
	t.Helper()
	for i := range len(s) {
		if b := s[i]; b < 32 && b != '\n' || b == 127 {
			t.Fatalf("P23.7: the byte %d stands in %q", b, s)
		}
	}
}

// oneMore puts a cell more into a grid: that is a line more, and all others stay, but for the last one.
func oneMore(t *testing.T, r chance, g *grid.Grid, s string) {
	t.Helper()
	was := strings.Split(s, "\n")
	if len(was) != g.Len()+3 || was[len(was)-1] != "" {
		t.Fatalf("P23.7: %d cells are %d lines: %q", g.Len(), len(was), s)
	}
	at := r.near()
	if g.Get(at).Kind != api.Empty {
		return
	}
	put(g, at, r.content())
	more, err := lines.Write(g)
	is := strings.Split(more, "\n")
	if err != api.OK || len(is) != len(was)+1 {
		t.Fatalf("P23.7: a cell more: %d lines, not %d", len(is), len(was)+1)
	}
	i := 0
	for i < len(was)-2 && is[i] == was[i] {
		i++
	}
	if strings.Join(is[i+1:len(is)-2], "\n") != strings.Join(was[i:len(was)-2], "\n") {
		t.Fatalf("P23.7: a cell more changes other lines: %q, %q", s, more)
	}
}

// A table of what cells show is read as what they show: numbers too, by General, Places 0, Width 0.
func TestTableAndBack(t *testing.T) {
	r := chance{rand.New(rand.NewSource(4))}
	other := api.Format{Kind: api.Fixed, Places: 1, Group: true, Width: 9}
	for i := range 15000 {
		a := api.Area{From: xy(1+r.Intn(252), 1+r.Intn(4092))}
		a.To = xy(a.From.Col+r.Intn(5), a.From.Row+r.Intn(5))
		g, numbers, f := grid.New(), i%2 == 0, general
		if !numbers {
			f = other
		}
		for range r.Intn(20) {
			at := xy(a.From.Col+r.Intn(6)-1, a.From.Row+r.Intn(6)-1)
			if v := r.value(); addr.Valid(at) && (numbers || v.Kind != api.Number) {
				put(g, at, api.Content{Kind: api.Plain, V: v})
			}
		}
		l, err := whole.Calc(g)
		s, no := lines.Table(l, a, f)
		puts, bad := lines.Numbers(s, a.From)
		if err != api.OK || no != api.OK || bad != (api.Mishap{}) {
			t.Fatalf("P23.7: Numbers of Table: errors %d, %d, %d at %d: %q", err, no, bad.Code, bad.At, s)
		}
		back := grid.New()
		for _, p := range puts {
			put(back, p.At, p.C)
		}
		for at := range addr.Cells(a) {
			if told(back.Get(at)) != told(g.Get(at)) {
				t.Fatalf("P23.7: in the table %q %v is %s, not %s", s, at, told(back.Get(at)), told(g.Get(at)))
			}
		}
		if len(puts) != back.Len() {
			t.Fatalf("P23.7: some cells are put twice by %q", s)
		}
	}
}

// A grid as full as may be, with blanks behind its last cell, is no more than a table can be read as.
func TestFullTableAndBack(t *testing.T) {
	r := chance{rand.New(rand.NewSource(5))}
	g := grid.New()
	for row := 1; row <= 32; row++ {
		for col := 1; col <= 256; col++ {
			if (row+col)%2 == 0 {
				put(g, xy(col, row), api.Content{Kind: api.Plain, V: r.value()})
			}
		}
	}
	l, err := whole.Calc(g)
	s, no := lines.Table(l, area("A1:IV40"), general)
	puts, bad := lines.Numbers(s, cell("A1"))
	if err != api.OK || no != api.OK || bad != (api.Mishap{}) || len(puts) != api.MaxCells {
		t.Fatalf("P23.7: %d puts, errors %d, %d, %d at %d", len(puts), err, no, bad.Code, bad.At)
	}
	back := grid.New()
	for _, p := range puts {
		put(back, p.At, p.C)
	}
	if toldGrid(back) != toldGrid(g) {
		t.Error("P23.7: the full grid is another one behind Table and Numbers")
	}
	text, err := lines.Write(g)
	if h, bad := lines.Read(text); err != api.OK || bad != (api.Mishap{}) || toldGrid(h) != toldGrid(g) {
		t.Errorf("P23.7: the full grid is another one behind Write and Read: errors %d, %d at %d", err, bad.Code, bad.At)
	}
}

// Q9: the same number is shown the same, whether it came out of a formula, out of lines, out of a table or out of a hand.
func TestShownTheSame(t *testing.T) {
	for _, x := range []float64{0, minus, .1, -1.5, 1e21, 1e-8, 5e-324, math.MaxFloat64, 1.0 / 3} {
		s, err := lines.Typed(num(x))
		if err != api.OK {
			t.Fatalf("P23.2: Typed(%v): error %d", x, err)
		}
		byHand, _ := lines.Entry(" " + s + " ")
		byFormula, _ := lines.Entry("=" + s)
		byLines, _ := lines.Read(head + "A1 " + s + "\nend 1\n")
		byTable, _ := lines.Numbers(s+"\n", cell("A1"))
		if byLines == nil || len(byTable) != 1 {
			t.Fatalf("P23.4: %q is not read", s)
		}
		for i, c := range []api.Content{byHand, byFormula, byLines.Get(cell("A1")), byTable[0].C} {
			l, err := whole.Calc(gridOf("A1", c))
			if err != api.OK {
				t.Fatalf("%d: error %d", i, err)
			}
			tables(t, l, area("A1"), general, s+"\n")
		}
	}
}
