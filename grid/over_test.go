package grid_test

import (
	"iter"
	"maps"
	"slices"
	"testing"

	"quadrille/addr"
	"quadrille/api"
	"quadrille/grid"
)

// P17.3: gone over; R5.

func TestToldInOrder(t *testing.T) {
	texts := []string{"IV1", "A2", "B2", "C2", "AA2", "IV2", "A3", "A10", "B9", "Z4095", "A4096", "C4096", "IV4096"}
	m := made(173)
	for i := range 60 {
		if i == 0 {
			slices.Reverse(texts)
		} else if i > 1 {
			m.Shuffle(len(texts), func(i, j int) { texts[i], texts[j] = texts[j], texts[i] })
		}
		g, w := grid.New(), model{}
		for _, text := range texts {
			c := m.good[m.Intn(len(m.good))]
			mustPut(t, g, cellAt(text), c)
			w.put(cellAt(text), c, true)
			w.check(t, "put in many orders", g)
		}
		w.checkIn(t, "put in many orders", g, areaAt("A1:IV4096"), areaAt("A2:C4096"), areaAt("B1:IV4095"), areaAt("A1:IV2"), areaAt("A2:C2"))
	}
}

func TestAllOfNoneOneAndMany(t *testing.T) {
	g, w := grid.New(), model{}
	w.check(t, "none", g)
	mustPut(t, g, cellAt("C3"), num(1))
	w.put(cellAt("C3"), num(1), true)
	w.check(t, "one", g)
	for _, a := range []string{"C3", "A1:C3", "C3:D4", "A1:IV4096", "B3", "C2", "D3", "C4", "A1:B4096", "A1:IV2", "D1:IV4096", "A4:IV4096"} {
		w.checkIn(t, "one", g, areaAt(a))
	}
	f, v := full(t)
	v.check(t, "many", f)
	for _, p := range v.all()[:300] {
		v.checkIn(t, "many", f, api.Area{From: p.At, To: p.At})
	}
	v.checkIn(t, "many", f, areaAt("A1:A4096"), areaAt("A1:IV1"), areaAt("A1:A16"), areaAt("A1:P256"), areaAt("A1:P255"), areaAt("A1:P257"), areaAt("BL1:IV4096"), areaAt("A4096:IV4096"), areaAt("BM1:IV4096"))
}

// P17.3: In of all areas there are among a few cells, with contents more and fewer than an area has cells.
func TestInOfEachArea(t *testing.T) {
	g, w := grid.New(), model{}
	for i, text := range []string{"B2", "C2", "D2", "B3", "D3", "C4", "E5", "A1"} {
		mustPut(t, g, cellAt(text), num(float64(i)))
		w.put(cellAt(text), num(float64(i)), true)
		for from := range addr.Cells(areaAt("A1:F6")) {
			for to := range addr.Cells(areaAt("A1:F6")) {
				w.checkIn(t, "each area", g, api.Area{From: from, To: to})
			}
		}
		if t.Failed() {
			return
		}
	}
}

func TestInOfNoArea(t *testing.T) {
	f, _ := full(t)
	g := gridOf(t, map[string]any{"A1": 1., "B1": 2., "A2": 3., "B2": "=A1", "IV4096": 4., "IV1": 5., "A4096": 6.})
	for _, a := range noAreas() {
		for _, g := range []*grid.Grid{f, g, grid.New()} {
			if g.In(a) == nil {
				t.Fatalf("R5: In(%v) is nil", a)
			}
			if l := puts(g.In(a)); len(l) > 0 {
				t.Errorf("P17.3: In(%v) is %s", a, short(toldPuts(l)))
			}
		}
	}
	if g.All() == nil || grid.New().All() == nil {
		t.Error("R5: All is nil")
	}
}

func TestBounds(t *testing.T) {
	g, w := grid.New(), model{}
	step := func(text string, c api.Content) {
		t.Helper()
		mustPut(t, g, cellAt(text), c)
		w.put(cellAt(text), c, true)
		w.check(t, text, g)
	}
	at := func(want string) {
		t.Helper()
		if a, is := g.Bounds(); !is || a != areaAt(want) {
			t.Errorf("P17.3: Bounds is %v %v, not %s", a, is, want)
		}
	}
	step("D7", num(1))
	at("D7")
	step("B9", fx("A1"))
	at("B7:D9")
	step("C8", num(1))
	at("B7:D9")
	step("A4096", plain(""))
	at("A7:D4096")
	step("IV1", plain(false))
	at("A1:IV4096")
	step("A1", num(1))
	step("IV4096", num(1))
	at("A1:IV4096")
	for _, text := range []string{"A1", "IV4096", "IV1"} {
		step(text, empty)
	}
	at("A7:D4096")
	step("A4096", empty)
	at("B7:D9")
	step("D7", empty)
	at("B8:C9")
	step("B9", empty)
	at("C8")
	step("C8", empty)
	if a, is := g.Bounds(); is || a != (api.Area{}) {
		t.Errorf("P17.3: Bounds of nothing: %v %v", a, is)
	}
	for _, text := range []string{"A1", "IV1", "A4096", "IV4096"} {
		step(text, num(1))
		at(text)
		step(text, empty)
	}
}

// some is a grid of several cells, and its model.
func some(t *testing.T) (*grid.Grid, model) {
	t.Helper()
	g, w := grid.New(), model{}
	for text, x := range map[string]any{"C1": 1., "B2": "x", "D2": "=A1+1", "A3": true, "C3": 4, "B4": minus, "A5": "=SUM(A1:B2,3)", "IV4096": ""} {
		mustPut(t, g, cellAt(text), contentOf(x))
		w[cellAt(text)] = contentOf(x)
	}
	return g, w
}

// ways are the iterators of a grid, and what they go over.
func ways(g *grid.Grid, w model) map[string]struct {
	seq  iter.Seq2[api.Addr, api.Content]
	want []api.Put
} {
	out := map[string]struct {
		seq  iter.Seq2[api.Addr, api.Content]
		want []api.Put
	}{"All": {g.All(), w.all()}}
	for _, text := range []string{"A1:IV4096", "A1:D9", "B2:C3", "B2:D2", "A5", "E1:E9"} {
		out[text] = struct {
			seq  iter.Seq2[api.Addr, api.Content]
			want []api.Put
		}{g.In(areaAt(text)), w.within(areaAt(text))}
	}
	return out
}

func TestLeftEarlyAndGoneOverAgain(t *testing.T) {
	g, w := some(t)
	for about, x := range ways(g, w) {
		for stop := range len(x.want) + 1 {
			var got []api.Put
			for at, c := range x.seq {
				if len(got) == stop {
					break
				}
				got = append(got, api.Put{At: at, C: c})
			}
			if !samePuts(got, x.want[:stop]) {
				t.Errorf("R5: %s left behind %d: %s", about, stop, toldPuts(got))
			}
			if got := puts(x.seq); !samePuts(got, x.want) {
				t.Errorf("R5: %s gone over again: %s, not %s", about, toldPuts(got), toldPuts(x.want))
			}
		}
		for stop := 1; stop <= len(x.want); stop++ {
			asked := 0
			x.seq(func(api.Addr, api.Content) bool { asked++; return asked < stop })
			if asked != stop {
				t.Errorf("R5: %s left at %d, gone on to %d", about, stop, asked)
			}
		}
	}
	w.check(t, "behind all of it", g)
}

func TestWithinItself(t *testing.T) {
	g, w := some(t)
	for about, x := range ways(g, w) {
		n := 0
		for at, c := range x.seq {
			if at != x.want[n].At || told(c) != told(x.want[n].C) {
				t.Errorf("R5: %s: %v at place %d", about, at, n)
			}
			n++
			writeOver(c)
			if got := puts(x.seq); !samePuts(got, x.want) {
				t.Errorf("R5: %s within itself: %s", about, toldPuts(got))
			}
			for within := range x.seq {
				if within == at {
					break
				}
			}
		}
		if n != len(x.want) {
			t.Errorf("R5: %s: %d of %d", about, n, len(x.want))
		}
		next, stop := iter.Pull2(x.seq)
		again, stopAgain := iter.Pull2(x.seq)
		for _, p := range x.want {
			a, c, ok := next()
			b, d, ok2 := again()
			if !ok || !ok2 || a != p.At || b != p.At || told(c) != told(p.C) || told(d) != told(p.C) {
				t.Fatalf("R5: %s twice at once: %v %v", about, a, b)
			}
		}
		stop()
		stopAgain()
	}
}

// R5: what there is when the range begins, whatever is done meanwhile.
func TestWhileCellsAreChanged(t *testing.T) {
	changes := map[string]func(*testing.T, *grid.Grid, model, api.Addr){
		"put": func(t *testing.T, g *grid.Grid, w model, at api.Addr) {
			for _, text := range []string{"A1", "B1", "B3", "C2", "D3", "C5", "Z9", "IV4095"} {
				mustPut(t, g, cellAt(text), num(9))
				w.put(cellAt(text), num(9), true)
			}
		},
		"changed": func(t *testing.T, g *grid.Grid, w model, at api.Addr) {
			for _, p := range w.all() {
				mustPut(t, g, p.At, fx("NA()"))
				w.put(p.At, fx("NA()"), true)
			}
		},
		"emptied": func(t *testing.T, g *grid.Grid, w model, at api.Addr) {
			for _, p := range w.all() {
				mustPut(t, g, p.At, empty)
				w.put(p.At, empty, true)
			}
		},
		"this one emptied": func(t *testing.T, g *grid.Grid, w model, at api.Addr) {
			mustPut(t, g, at, empty)
			w.put(at, empty, true)
		},
		"this one changed and put back": func(t *testing.T, g *grid.Grid, w model, at api.Addr) {
			was := g.Get(at)
			mustPut(t, g, at, empty)
			mustPut(t, g, at, fx("SUM(7,8)"))
			mustPut(t, g, at, was)
		},
		"refused": func(t *testing.T, g *grid.Grid, w model, at api.Addr) {
			g.Put(at, api.Content{Kind: 3})
			g.Put(api.Addr{}, num(1))
		},
	}
	for about, change := range changes {
		for way := range ways(some(t)) {
			for when := range 8 {
				g, w := some(t)
				x := ways(g, w)[way]
				v := maps.Clone(w)
				var got []api.Put
				for at, c := range x.seq {
					if len(got) == when || about == "this one emptied" {
						change(t, g, v, at)
					}
					got = append(got, api.Put{At: at, C: c})
				}
				if !samePuts(got, x.want) {
					t.Errorf("R5: %s, %s at %d: %s, not %s", way, about, when, toldPuts(got), toldPuts(x.want))
				}
				v.check(t, about, g)
				if got, want := puts(x.seq), ways(g, v)[way].want; !samePuts(got, want) {
					t.Errorf("R5: %s, %s, gone over again: %s, not %s", way, about, toldPuts(got), toldPuts(want))
				}
			}
		}
	}
}

// R5: an iterator taken ahead of a change, and gone over behind it.
func TestTakenAhead(t *testing.T) {
	g, w := grid.New(), model{}
	area := areaAt("B2:D9")
	all, in := g.All(), g.In(area)
	step := func(text string, c api.Content) {
		t.Helper()
		mustPut(t, g, cellAt(text), c)
		w.put(cellAt(text), c, true)
		if !samePuts(puts(all), w.all()) || !samePuts(puts(in), w.within(area)) {
			t.Errorf("R5: taken ahead of a change of %s: %s; %s", text, toldPuts(puts(all)), toldPuts(puts(in)))
		}
	}
	for _, text := range []string{"C3", "B2", "A1", "D9", "E9", "C3"} {
		step(text, plain(text))
		step(text, fx("SUM(1,2)"))
	}
	for _, text := range []string{"B2", "A1", "D9", "C3", "E9"} {
		step(text, empty)
	}
	_ = g.Put(cellAt("A1"), api.Content{Kind: 9})
	step("A1", num(1))
}

// A loop's own panic comes out of it, and the grid is as it was.
func TestALoopsOwnPanic(t *testing.T) {
	g, w := some(t)
	for about, x := range ways(g, w) {
		if len(x.want) == 0 {
			continue
		}
		func() {
			defer func() {
				if recover() != "mine" {
					t.Errorf("R5: %s: a loop's own panic is caught", about)
				}
			}()
			for range x.seq {
				panic("mine")
			}
		}()
		if !samePuts(puts(x.seq), x.want) {
			t.Errorf("R5: %s behind a panic", about)
		}
	}
	w.check(t, "behind a panic", g)
}

func TestExamplesOfAll(t *testing.T) {
	g := gridOf(t, map[string]any{"B2": "x", "A3": 1., "C1": 2.})
	var l []api.Addr
	for at := range g.All() {
		l = append(l, at)
	}
	if !slices.Equal(l, []api.Addr{cellAt("C1"), cellAt("B2"), cellAt("A3")}) {
		t.Errorf("P17.3: All: %v", l)
	}
	if l := puts(g.In(areaAt("A1:B2"))); len(l) != 1 || l[0].At != cellAt("B2") {
		t.Errorf("P17.3: In: %v", l)
	}
	if a, is := g.Bounds(); !is || a != areaAt("A1:C3") {
		t.Errorf("P17.3: Bounds: %v", a)
	}
}
