package grid_test

import (
	"testing"

	"quadrille/api"
	"quadrille/grid"
)

// P17.2: put and got.

func TestANewGridIsEmpty(t *testing.T) {
	for about, g := range map[string]*grid.Grid{"New": grid.New(), "a zero Grid": {}} {
		model{}.check(t, about, g)
		for _, at := range append(noCells(), cellAt("A1"), cellAt("IV4096"), cellAt("C7")) {
			if c := g.Get(at); told(c) != told(empty) {
				t.Errorf("P17.2: %s: Get(%v) is %s", about, at, told(c))
			}
		}
		model{}.checkIn(t, about, g, append(noAreas(), areaAt("A1"), areaAt("A1:IV4096"))...)
	}
}

// A Grid that was made without New takes contents like any other one.
func TestAZeroGrid(t *testing.T) {
	var g grid.Grid
	w := model{}
	w.put(cellAt("B2"), num(7), true)
	if err := g.Put(cellAt("A1"), empty); err != api.OK || g.Len() != 0 {
		t.Errorf("P17.2: Put of Empty: %d", err)
	}
	mustPut(t, &g, cellAt("B2"), num(7))
	w.check(t, "a zero Grid", &g)
	c := (&grid.Grid{}).Clone()
	if c == nil || !c.Equal(&grid.Grid{}) || !c.Equal(grid.New()) {
		t.Error("P17.4: a zero Grid's Clone")
	}
	mustPut(t, c, cellAt("B2"), num(7))
	if !c.Equal(&g) || !g.Equal(c) || len(g.Puts(&grid.Grid{})) != 1 || len((&grid.Grid{}).Puts(&g)) != 1 {
		t.Error("P17.4: of zero Grids")
	}
}

func TestEachContentPutAndGot(t *testing.T) {
	l := good()
	for _, x := range nans() {
		l = append(l, num(x))
	}
	for i, c := range l {
		g, w := grid.New(), model{}
		for _, other := range []api.Content{num(3), fx("B2*2"), c, c, empty, c} {
			for _, at := range []api.Addr{cellAt("A1"), {Col: 1 + i, Row: 1 + 40*i}} {
				mustPut(t, g, at, other)
				w.put(at, other, true)
				w.check(t, "one behind the other", g)
			}
		}
	}
}

func TestEmptied(t *testing.T) {
	for _, n := range zeroNodes() {
		none := api.Content{F: n}
		g, w := grid.New(), model{}
		for _, text := range []string{"A1", "B1", "A2", "IV4096"} {
			at := cellAt(text)
			mustPut(t, g, at, none)
			w.check(t, "Empty where there is nothing", g)
			mustPut(t, g, at, fx("C3+1"))
			w.put(at, fx("C3+1"), true)
			w.check(t, "a formula", g)
		}
		for _, text := range []string{"B1", "IV4096", "B1", "A1", "C9", "A2"} {
			mustPut(t, g, cellAt(text), none)
			w.put(cellAt(text), none, true)
			w.check(t, "emptied", g)
		}
		if g.Len() != 0 || !g.Equal(grid.New()) {
			t.Error("P17.2: all are emptied, and something is left")
		}
	}
}

func TestCellsAtTheLimits(t *testing.T) {
	g, w := grid.New(), model{}
	for _, text := range []string{"A1", "IV1", "A4096", "IV4096", "IU4095", "B2"} {
		mustPut(t, g, cellAt(text), plain(text))
		w.put(cellAt(text), plain(text), true)
	}
	w.check(t, "at the limits", g)
	for _, at := range noCells() {
		for _, c := range []api.Content{num(7), fx("A1"), plain(""), empty} {
			if err := g.Put(at, c); err != api.ErrAddr {
				t.Errorf("P17.2: Put(%v, %s): %d", at, told(c), err)
			}
		}
		if c := g.Get(at); told(c) != told(empty) {
			t.Errorf("P17.2: Get(%v): %s", at, told(c))
		}
	}
	w.check(t, "behind what is no cell", g)
}

// full is a grid of MaxCells cells, and its model.
func full(t *testing.T) (*grid.Grid, model) {
	t.Helper()
	g, w := grid.New(), model{}
	for i := range 4096 {
		at, c := api.Addr{Col: 1 + (i*37)%64, Row: 1 + i%4096*61%4096}, num(float64(i))
		if g.Len() != i {
			t.Fatalf("P17.2: Len is %d, not %d", g.Len(), i)
		}
		mustPut(t, g, at, c)
		w[at] = c
	}
	if len(w) != 4096 {
		t.Fatalf("the test's cells are %d", len(w))
	}
	return g, w
}

func TestFull(t *testing.T) {
	g, w := full(t)
	w.check(t, "full", g)
	one, other := w.all()[0].At, w.all()[4095].At
	for _, c := range []api.Content{num(1), fx("A1"), plain(""), plain(false)} {
		for _, text := range []string{"CA1", "IV4096", "BM77"} {
			if err := g.Put(cellAt(text), c); err != api.ErrFull {
				t.Errorf("P17.2: one more: %d", err)
			}
		}
	}
	w.check(t, "behind ErrFull", g)
	steps := []struct {
		at   api.Addr
		c    api.Content
		want api.Errno
	}{
		{one, fx("B1+1"), api.OK}, {one, fx("B1+1"), api.OK}, {other, plain("x"), api.OK}, {cellAt("CA1"), empty, api.OK}, {cellAt("CA1"), num(1), api.ErrFull},
		{one, empty, api.OK}, {one, empty, api.OK}, {cellAt("CA1"), num(1), api.OK}, {cellAt("CB1"), num(1), api.ErrFull}, {one, num(1), api.ErrFull}, {cellAt("CA1"), num(2), api.OK},
		{other, empty, api.OK}, {cellAt("CA1"), empty, api.OK}, {other, num(minus), api.OK}, {one, num(minus), api.OK}, {cellAt("CA1"), num(1), api.ErrFull},
	}
	for i, s := range steps {
		if err := g.Put(s.at, s.c); err != s.want || w.put(s.at, s.c, true) != s.want {
			t.Fatalf("P17.2: step %d: Put(%v, %s): %d, not %d", i, s.at, told(s.c), err, s.want)
		}
		w.check(t, "steps of a full grid", g)
	}
}

// ErrArg ahead of ErrAddr ahead of ErrFull; what is refused has changed nothing.
func TestErrorsInTheirOrder(t *testing.T) {
	g, w := full(t)
	small, v := gridOf(t, map[string]any{"A1": 1., "B2": "=A1+1"}), model{cellAt("A1"): num(1), cellAt("B2"): fx("A1+1")}
	there := w.all()[9].At
	for i, c := range bad() {
		for _, at := range []api.Addr{noCells()[i%len(noCells())], {Col: 257, Row: 1}, {}, cellAt("CA1"), there} {
			if err := g.Put(at, c); err != api.ErrArg {
				t.Errorf("P17.2: bad content %d at %v into a full grid: %d", i, at, err)
			}
			if err := small.Put(at, c); err != api.ErrArg {
				t.Errorf("P17.2: bad content %d at %v: %d", i, at, err)
			}
		}
		for _, text := range []string{"A1", "B2", "C3"} {
			if err := small.Put(cellAt(text), c); err != api.ErrArg {
				t.Errorf("P17.2: bad content %d at %s: %d", i, text, err)
			}
		}
		v.check(t, "behind ErrArg", small)
	}
	for _, at := range noCells() {
		for _, c := range []api.Content{num(7), empty} {
			if err := g.Put(at, c); err != api.ErrAddr {
				t.Errorf("P17.2: Put(%v) into a full grid: %d", at, err)
			}
		}
	}
	if err := g.Put(cellAt("CA1"), num(7)); err != api.ErrFull {
		t.Errorf("P17.2: one more: %d", err)
	}
	w.check(t, "behind errors", g)
	w.checkIn(t, "behind errors", g, areaAt("A1:IV9"), areaAt("CA1"), areaAt("A1:C77"))
}

// R3: what was put is not kept, and what is told is not what is kept.
func TestWrittenOver(t *testing.T) {
	g, w := grid.New(), model{}
	for i, c := range good() {
		at := api.Addr{Col: 1 + i%5, Row: 1 + i/5}
		c = roomy(c)
		was := toldWhole(c)
		mustPut(t, g, at, c)
		w.put(at, c, true)
		if toldWhole(c) != was {
			t.Errorf("R3: Put has changed what was put: %s", short(was))
		}
		writeOver(c)
	}
	o := grid.New()
	w.check(t, "what was put written over", g)
	for _, p := range w.all() {
		writeOver(g.Get(p.At))
		writeOver(g.Get(p.At))
	}
	w.check(t, "what Get told written over", g)
	for _, c := range g.All() {
		writeOver(c)
	}
	w.check(t, "what All told written over", g)
	for _, a := range []api.Area{areaAt("A1:E40"), areaAt("B2:C3"), areaAt("C4")} {
		for _, c := range g.In(a) {
			writeOver(c)
		}
	}
	w.check(t, "what In told written over", g)
	for _, p := range o.Puts(g) {
		writeOver(p.C)
	}
	w.check(t, "what Puts told written over", g)
	first, second := o.Puts(g), o.Puts(g)
	_ = append(first, api.Put{At: cellAt("Z9"), C: num(9)})
	for i := range first {
		writeOver(first[i].C)
		first[i] = api.Put{}
	}
	if !samePuts(second, w.all()) {
		t.Error("R3: two answers of Puts share memory")
	}
	one, two := puts(g.All()), puts(g.All())
	for _, p := range one {
		writeOver(p.C)
	}
	if !samePuts(two, w.all()) {
		t.Error("R3: two rounds of All share memory")
	}
}

// R3: one content put into two cells, or into two grids.
func TestOneContentTwice(t *testing.T) {
	c := roomy(fx("SUM(A1:B2,1)+MAX(2,3)"))
	want := told(c)
	g, o := grid.New(), grid.New()
	mustPut(t, g, cellAt("A1"), c)
	mustPut(t, g, cellAt("A2"), c)
	mustPut(t, o, cellAt("A1"), g.Get(cellAt("A1")))
	mustPut(t, g, cellAt("A1"), fx("SUM(9)"))
	writeOver(c)
	if told(g.Get(cellAt("A2"))) != want || told(o.Get(cellAt("A1"))) != want || told(g.Get(cellAt("A1"))) != told(fx("SUM(9)")) {
		t.Error("R3: one content in two cells")
	}
}

func TestExamplesOfPut(t *testing.T) {
	g := grid.New()
	for i, c := range []struct {
		at   api.Addr
		c    api.Content
		want api.Errno
	}{{cellAt("A1"), num(7), api.OK}, {api.Addr{Col: 257, Row: 1}, num(7), api.ErrAddr}, {api.Addr{Col: 257, Row: 1}, api.Content{Kind: 3}, api.ErrArg}, {cellAt("B2"), plain("x"), api.OK}, {cellAt("A1"), empty, api.OK}} {
		if err := g.Put(c.at, c.c); err != c.want {
			t.Errorf("P17.2: put %d: %d", i, err)
		}
	}
	if g.Len() != 1 {
		t.Errorf("P17.2: Len: %d", g.Len())
	}
}

// R1: a nil grid.
func TestANilGrid(t *testing.T) {
	var none *grid.Grid
	for _, c := range []api.Content{num(7), empty, {Kind: 9}, fx("A1")} {
		for _, at := range []api.Addr{cellAt("A1"), {}, {Col: 257, Row: 1}} {
			if err := none.Put(at, c); err != api.ErrArg {
				t.Errorf("R1: Put: %d", err)
			}
			if c := none.Get(at); told(c) != told(empty) {
				t.Errorf("R1: Get: %s", told(c))
			}
		}
	}
	if none.Len() != 0 || none.Clone() != nil || none.Equal(nil) || none.Equal(none) || none.Equal(grid.New()) || grid.New().Equal(none) {
		t.Error("R1: Len, Clone, Equal")
	}
	if a, is := none.Bounds(); is || a != (api.Area{}) {
		t.Error("R1: Bounds")
	}
	g := gridOf(t, map[string]any{"A1": 1., "B2": "=A1"})
	if len(none.Puts(g)) > 0 || len(none.Puts(nil)) > 0 || len(g.Puts(none)) > 0 {
		t.Error("R1: Puts")
	}
	if none.All() == nil || len(puts(none.All())) > 0 {
		t.Error("R1: All")
	}
	for _, a := range append(noAreas(), areaAt("A1"), areaAt("A1:IV4096")) {
		if none.In(a) == nil || len(puts(none.In(a))) > 0 {
			t.Error("R1: In")
		}
	}
}
