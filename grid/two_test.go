package grid_test

import (
	"maps"
	"slices"
	"testing"

	"quadrille/api"
	"quadrille/grid"
)

// P17.4: two grids; P17.5: what follows.

func TestClone(t *testing.T) {
	g, w := some(t)
	c := g.Clone()
	w.check(t, "a Clone", c)
	if c == g || !c.Equal(g) || !g.Equal(c) {
		t.Error("P17.4: a Clone is another grid, and Equal")
	}
	v := maps.Clone(w)
	both := func(about string) {
		t.Helper()
		w.check(t, about+": the grid", g)
		v.check(t, about+": its Clone", c)
	}
	for _, text := range []string{"C1", "D2", "A5", "Z9"} {
		at := cellAt(text)
		for _, x := range []api.Content{num(9), fx("SUM(A1,7)"), empty, fx("A1+1")} {
			mustPut(t, g, at, x)
			w.put(at, x, true)
			both("the grid changed")
		}
		for _, x := range []api.Content{fx("MAX(A1,7)"), plain("y"), empty} {
			mustPut(t, c, at, x)
			v.put(at, x, true)
			both("the Clone changed")
		}
	}
	d := c.Clone()
	for _, l := range [][]api.Put{puts(g.All()), puts(c.All()), puts(d.All())} {
		for _, p := range l {
			writeOver(p.C)
		}
	}
	both("what is told written over")
	v.check(t, "a Clone's Clone", d)
	if n := grid.New().Clone(); n == nil || n.Len() != 0 || !n.Equal(grid.New()) {
		t.Error("P17.4: a Clone of nothing")
	}
}

func TestCloneOfAFullGrid(t *testing.T) {
	g, w := full(t)
	c, v := g.Clone(), maps.Clone(w)
	at := w.all()[77].At
	if g.Put(cellAt("CA1"), num(1)) != api.ErrFull || c.Put(cellAt("CA1"), num(1)) != api.ErrFull {
		t.Error("P17.2: one more")
	}
	mustPut(t, c, at, empty)
	v.put(at, empty, true)
	if g.Put(cellAt("CA1"), num(1)) != api.ErrFull {
		t.Error("P17.4: a Clone's room is the grid's")
	}
	mustPut(t, c, cellAt("CA1"), fx("A1"))
	v.put(cellAt("CA1"), fx("A1"), true)
	w.check(t, "the grid", g)
	v.check(t, "its Clone", c)
	if l := g.Puts(c); !samePuts(l, w.puts(v)) || len(l) != 2 {
		t.Errorf("P17.4: Puts: %s", toldPuts(l))
	}
}

func TestEqual(t *testing.T) {
	g, w := some(t)
	o := grid.New()
	l := w.all()
	slices.Reverse(l)
	for i, p := range l {
		if g.Equal(o) || o.Equal(g) {
			t.Errorf("P17.4: Equal with %d of %d cells", i, len(l))
		}
		mustPut(t, o, cellAt("G7"), num(1))
		mustPut(t, o, p.At, num(99))
		if g.Equal(o) || o.Equal(g) {
			t.Error("P17.4: Equal with another content")
		}
		mustPut(t, o, p.At, p.C)
		mustPut(t, o, cellAt("G7"), empty)
	}
	if !g.Equal(o) || !o.Equal(g) || !g.Equal(g) || g.Equal(nil) || grid.New().Equal(nil) || !grid.New().Equal(grid.New()) || g.Equal(grid.New()) || grid.New().Equal(g) {
		t.Error("P17.4: Equal")
	}
	// As many cells, one at another place.
	p := l[2]
	mustPut(t, o, p.At, empty)
	mustPut(t, o, cellAt("G7"), p.C)
	if g.Equal(o) || o.Equal(g) {
		t.Error("P17.4: Equal with a cell at another place")
	}
	w.check(t, "asked", g)
}

// P17.4: Equal and Puts of cells that differ in one content, or don't.
func TestEachTwoContents(t *testing.T) {
	l := append(good(), empty)
	for i, a := range l {
		for j, b := range l {
			g, o := gridOf(t, map[string]any{"A1": 1., "C3": "=A1"}), gridOf(t, map[string]any{"C3": "=A1", "A1": 1.})
			mustPut(t, g, cellAt("B2"), a)
			mustPut(t, o, cellAt("B2"), b)
			if g.Equal(o) != (i == j) {
				t.Errorf("P17.4: Equal of %s, %s: %v", short(told(a)), short(told(b)), i != j)
			}
			var want []api.Put
			if i != j {
				want = []api.Put{{At: cellAt("B2"), C: clean(b)}}
			}
			if l := g.Puts(o); !samePuts(l, want) {
				t.Errorf("P17.4: Puts from %s to %s: %s", short(told(a)), short(told(b)), short(toldPuts(l)))
			}
		}
	}
	for _, x := range nans() {
		for _, y := range nans() {
			g, o := grid.New(), grid.New()
			mustPut(t, g, cellAt("B2"), num(x))
			mustPut(t, o, cellAt("B2"), num(y))
			if !g.Equal(o) || len(g.Puts(o)) > 0 {
				t.Error("P17.4: NaNs are not the same")
			}
		}
	}
}

func TestPuts(t *testing.T) {
	g, w := some(t)
	none := grid.New()
	if len(g.Puts(g)) > 0 || len(g.Puts(nil)) > 0 || len(none.Puts(none)) > 0 || len(none.Puts(nil)) > 0 || len(g.Puts(g.Clone())) > 0 {
		t.Error("P17.4: Puts tells what is the same")
	}
	if l := none.Puts(g); !samePuts(l, w.all()) {
		t.Errorf("P17.4: Puts of an empty grid: %s", toldPuts(l))
	}
	l := g.Puts(none)
	if len(l) != len(w) {
		t.Errorf("P17.4: Puts to an empty grid: %d", len(l))
	}
	for i, p := range w.all() {
		if l[i].At != p.At || told(l[i].C) != told(empty) {
			t.Errorf("P17.4: Puts to an empty grid: %s", toldPuts(l[i:i+1]))
		}
	}
	o, v := g.Clone(), maps.Clone(w)
	for text, c := range map[string]api.Content{"A1": num(1), "C1": empty, "B2": plain("y"), "D2": fx("A1+2"), "B4": num(0), "A5": fx("SUM(A1:B2,3)"), "G3": fx("A1"), "IV4096": empty} {
		mustPut(t, o, cellAt(text), c)
		v.put(cellAt(text), c, true)
	}
	for range 20 {
		if l := g.Puts(o); !samePuts(l, w.puts(v)) || len(l) != 7 {
			t.Errorf("P17.4: Puts: %s, not %s", toldPuts(l), toldPuts(w.puts(v)))
		}
		if l := o.Puts(g); !samePuts(l, v.puts(w)) || len(l) != 7 {
			t.Errorf("P17.4: Puts the other way: %s, not %s", toldPuts(l), toldPuts(v.puts(w)))
		}
	}
	w.check(t, "asked", g)
	v.check(t, "asked", o)
}

// done are puts that are done on a grid, those that put Empty first.
func done(t *testing.T, g *grid.Grid, l []api.Put) {
	t.Helper()
	for _, first := range []bool{true, false} {
		for _, p := range l {
			if (p.C.Kind == api.Empty) == first {
				mustPut(t, g, p.At, p.C)
			}
		}
	}
}

// P17.5: Puts done on g leads to o, on full grids too.
func TestPutsLeadThere(t *testing.T) {
	m := made(175)
	for range 200 {
		g, o, w, v := grid.New(), grid.New(), model{}, model{}
		for range m.Intn(50) {
			m.step(t, g, w, 6, 6)
			m.step(t, o, v, 6, 6)
		}
		c := g.Clone()
		done(t, g, g.Puts(o))
		if !g.Equal(o) || len(g.Puts(o)) > 0 || len(o.Puts(g)) > 0 {
			t.Fatalf("P17.5: Puts lead elsewhere: %s, not %s", short(toldPuts(puts(g.All()))), short(toldPuts(puts(o.All()))))
		}
		done(t, g, g.Puts(c))
		w.check(t, "there and back", g)
		v.check(t, "there and back", o)
	}
	g, w := full(t)
	o, v := grid.New(), model{}
	for i := range 4096 {
		at := api.Addr{Col: 33 + i%64, Row: 1 + i/64}
		mustPut(t, o, at, num(float64(i)))
		v[at] = num(float64(i))
	}
	l := g.Puts(o)
	if !samePuts(l, w.puts(v)) || len(l) < 5000 {
		t.Errorf("P17.4: Puts of full grids: %d", len(l))
	}
	done(t, g, l)
	v.check(t, "Puts of full grids", g)
}

// P17.5: what All tells, put into a new grid in any order.
func TestAllIntoANewGrid(t *testing.T) {
	m := made(176)
	for i := range 80 {
		g, w := grid.New(), model{}
		if i == 0 {
			g, w = full(t)
		}
		for range m.Intn(60) {
			m.step(t, g, w, 7, 7)
		}
		l := puts(g.All())
		m.Shuffle(len(l), func(i, j int) { l[i], l[j] = l[j], l[i] })
		o := grid.New()
		for _, p := range l {
			mustPut(t, o, p.At, p.C)
		}
		if !o.Equal(g) || !g.Equal(o) || len(g.Puts(o)) > 0 {
			t.Fatal("P17.5: what All tells is another grid")
		}
		w.check(t, "what All tells, put into a new grid", o)
	}
}

// P17.5: a Put of the content that a cell has.
func TestPutOfWhatIsThere(t *testing.T) {
	one, v := some(t)
	two, w := full(t)
	for _, x := range []struct {
		g *grid.Grid
		m model
	}{{one, v}, {two, w}} {
		was := x.g.Clone()
		for at, c := range x.g.All() {
			mustPut(t, x.g, at, c)
			mustPut(t, x.g, at, x.g.Get(at))
		}
		mustPut(t, x.g, cellAt("CA7"), x.g.Get(cellAt("CA7")))
		if !x.g.Equal(was) || len(was.Puts(x.g)) > 0 {
			t.Error("P17.5: a Put of what is there has changed something")
		}
		x.m.check(t, "a Put of what is there", x.g)
	}
}

// R4: two grids side by side have nothing to do with each other.
func TestSideBySide(t *testing.T) {
	m := made(177)
	g, o, w, v := grid.New(), grid.New(), model{}, model{}
	for range 120 {
		m.step(t, g, w, 4, 4)
		m.step(t, o, v, 4, 4)
		w.check(t, "one", g)
		v.check(t, "the other one", o)
		for at, c := range g.All() {
			for at2, d := range o.All() {
				if told(c) != told(w[at]) || told(d) != told(v[at2]) {
					t.Fatal("R4: one within the other one")
				}
			}
		}
	}
}

func TestExamplesOfTwo(t *testing.T) {
	g, o := gridOf(t, map[string]any{"A1": 1., "A2": 2.}), gridOf(t, map[string]any{"A2": 2., "B1": 3.})
	if l := g.Puts(o); !samePuts(l, []api.Put{{At: cellAt("A1")}, {At: cellAt("B1"), C: num(3)}}) {
		t.Errorf("P17.4: Puts: %s", toldPuts(l))
	}
	if len(g.Puts(g)) > 0 {
		t.Error("P17.4: Puts of itself")
	}
}
