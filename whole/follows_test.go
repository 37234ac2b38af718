package whole_test

import (
	"fmt"
	"math/rand"
	"slices"
	"testing"

	"quadrille/api"
	"quadrille/grid"
	"quadrille/value"
	"quadrille/whole"
)

// P19.5: what follows; and Q2: the order doesn't matter.

// some is a sheet by chance, and who made it.
func some(t *testing.T, seed int64) (*grid.Grid, maker) {
	t.Helper()
	m := maker{rand.New(rand.NewSource(seed)), xy(2, 5), 5, 9, true}
	return m.grid(t, 5+m.Intn(50)), m
}

// shows is what each cell shows.
func shows(t *testing.T, g *grid.Grid) map[api.Addr]api.Value {
	t.Helper()
	all := map[api.Addr]api.Value{}
	for _, c := range mustCalc(t, g) {
		all[c.At] = c.V
	}
	return all
}

// TestPicksAndWorkers: By and Free answer Calc's cells.
func TestPicksAndWorkers(t *testing.T) {
	for seed := range int64(60) {
		g, m := some(t, seed)
		l := mustCalc(t, g)
		by, err := whole.By(g, m.picks(60))
		if err != api.OK || !whole.Same(inOrder(by), l) {
			t.Errorf("P19.5: By answers others than Calc: error %d", err)
		}
		free, err := whole.Free(g, 1+m.Intn(64))
		if err != api.OK || !whole.Same(free, l) {
			t.Errorf("P19.5: Free answers others than Calc: error %d", err)
		}
		sameTold(t, "P19.5: By and Calc", told(inOrder(by)), told(l))
		sameTold(t, "P19.5: Free and Calc", told(free), told(l))
		for i, c := range l {
			if i > 0 && standing(l[i-1].At, c.At) >= 0 {
				t.Errorf("P19.1: %s stands behind %s", name(c.At), name(l[i-1].At))
			}
			if !grid.Same(c.C, g.Get(c.At)) || c.C.Kind == api.Plain && !value.Same(c.V, c.C.V) || !value.Valid(c.V) || c.V.Kind == api.Blank {
				t.Errorf("P19.1: %s has %s and shows %s", name(c.At), toldContent(c.C), toldValue(c.V))
			}
		}
	}
}

// TestErrCycleByCircles: Calc answers ErrCycle just if Circles answers some.
func TestErrCycleByCircles(t *testing.T) {
	rings := 0
	for seed := range int64(200) {
		m := maker{rand.New(rand.NewSource(seed)), xy(2, 5), 5, 6, false}
		g := m.grid(t, m.Intn(20))
		_, err := whole.Calc(g)
		if (err == api.ErrCycle) != (len(whole.Circles(g)) > 0) || err != api.OK && err != api.ErrCycle {
			t.Errorf("P19.5: Calc: error %d, Circles: %s", err, names(whole.Circles(g)))
		}
		if err != api.OK {
			rings++
		}
	}
	if rings < 40 || rings > 160 {
		t.Errorf("too few of a sort: %d of 200 with circles", rings)
	}
}

// TestWavesUseThoseAhead: each formula is in one wave, uses none of its own or of a later one, and one of the wave ahead.
func TestWavesUseThoseAhead(t *testing.T) {
	for seed := range int64(80) {
		g, _ := some(t, seed)
		w := modelOf(g)
		l, err := whole.Waves(g)
		if err != api.OK {
			t.Fatalf("P19.4: error %d", err)
		}
		var all []api.Addr
		for i, wave := range l {
			if len(wave) == 0 {
				t.Error("P19.4: a wave without formulas")
			}
			all = append(all, wave...)
			for _, user := range wave {
				uses := func(at api.Addr) bool { return w.uses(user, at) }
				if slices.ContainsFunc(slices.Concat(l[i:]...), uses) {
					t.Errorf("P19.5: %s uses one of its own wave, or of a later one", name(user))
				}
				if i > 0 && !slices.ContainsFunc(l[i-1], uses) {
					t.Errorf("P19.5: %s uses none of the wave ahead", name(user))
				}
			}
		}
		slices.SortFunc(all, standing)
		sameCells(t, "P19.5: the formulas of all waves", all, w.formulas())
	}
}

// TestFormulasAsWhatTheyShow: put into their cells as what they show, all at once or one by one, every cell shows what it showed.
func TestFormulasAsWhatTheyShow(t *testing.T) {
	for seed := range int64(60) {
		g, m := some(t, seed)
		l := mustCalc(t, g)
		m.Shuffle(len(l), func(i, j int) { l[i], l[j] = l[j], l[i] })
		want := told(valuesOf(inOrder(l)))
		for i, c := range l {
			if c.C.Kind == api.Formula {
				put(t, g, c.At, plain(c.V))
			}
			if i%7 == 0 || i == len(l)-1 {
				sameTold(t, "P19.5: a formula put as what it shows", told(valuesOf(mustCalc(t, g))), want)
			}
		}
	}
}

// valuesOf are cells without their contents.
func valuesOf(l []api.Cell) []api.Cell {
	var list []api.Cell
	for _, c := range l {
		list = append(list, api.Cell{At: c.At, V: c.V})
	}
	return list
}

// TestOneCellChanged: all cells show what they showed but that one and those that hang on it.
func TestOneCellChanged(t *testing.T) {
	changed := 0
	for seed := range int64(240) {
		g, m := some(t, seed)
		before := shows(t, g)
		at := m.cell()
		c := m.content(at.Row)
		if m.Intn(4) == 0 {
			c = api.Content{}
		}
		put(t, g, at, c)
		after, above := shows(t, g), modelOf(g).above(at)
		for row := 1; row < 20; row++ {
			for col := 1; col < 12; col++ {
				one := xy(col, row)
				if value.Same(before[one], after[one]) {
					continue
				}
				changed++
				if one != at && !slices.Contains(above, one) {
					t.Errorf("P19.5: %s was put, and %s shows something else", name(at), name(one))
				}
			}
		}
	}
	if changed < 150 {
		t.Errorf("too few of a sort: %d cells changed", changed)
	}
}

// TestWhatHangsIsWorkedOutAnew: along a chain, through an area, and no farther.
func TestWhatHangsIsWorkedOutAnew(t *testing.T) {
	g := gridOf(t, "A1", 1.0, "A2", "=A1+1", "A3", "=SUM(A1:A2)", "B1", "=A3*0", "B2", "=C9", "B3", "=B1+B2")
	for _, c := range []struct {
		at   string
		what any
		want string
	}{
		{"A1", 5.0, "5 0 6 0 11 0"},
		{"C9", 3.0, "5 0 6 3 11 3 3"},
		{"A2", 1.0, "5 0 1 3 6 3 3"},
		{"A3", 1.0, "5 0 1 3 1 3 3"},
		{"D9", 1.0, "5 0 1 3 1 3 3 1"},
		{"C9", nil, "5 0 1 0 1 0 1"},
		{"A1", nil, "0 1 0 1 0 1"},
		{"A3", "=SUM(A1:A2)*2", "0 1 0 2 0 1"},
	} {
		put(t, g, cell(c.at), content(c.what))
		got := ""
		for _, one := range mustCalc(t, g) {
			got += fmt.Sprint(one.V.X, " ")
		}
		if got != c.want+" " {
			t.Errorf("P19.5: with %s as %v: %s, not %s", c.at, c.what, got, c.want)
		}
	}
}

// TestOneCellMore: where nothing was, and that no formula uses, changes nothing else.
func TestOneCellMore(t *testing.T) {
	tried := 0
	for seed := range int64(60) {
		g, m := some(t, seed)
		l := mustCalc(t, g)
		w := modelOf(g)
		for range 20 {
			at := xy(1+m.Intn(9), 5+m.Intn(14))
			if g.Get(at).Kind != api.Empty || slices.ContainsFunc(w.formulas(), func(user api.Addr) bool { return w.uses(user, at) }) {
				continue
			}
			tried++
			o := g.Clone()
			put(t, o, at, m.content(at.Row))
			more := slices.DeleteFunc(mustCalc(t, o), func(c api.Cell) bool { return c.At == at })
			sameTold(t, "P19.5: with one cell more", told(more), told(l))
		}
	}
	if tried < 200 {
		t.Errorf("too few of a sort: %d", tried)
	}
}

// TestCopies: a copy of the grid, and a grid that came there another way, show the same.
func TestCopies(t *testing.T) {
	for seed := range int64(40) {
		g, m := some(t, seed)
		want := told(mustCalc(t, g))
		sameTold(t, "P19.5: a copy of the grid", told(mustCalc(t, g.Clone())), want)
		o := m.grid(t, 30)
		puts := g.Puts(o)
		back := o.Puts(g)
		for _, list := range [][]api.Put{puts, back} {
			m.Shuffle(len(list), func(i, j int) { list[i], list[j] = list[j], list[i] })
			for _, p := range list {
				put(t, g, p.At, p.C)
			}
		}
		sameTold(t, "Q2: put another way", told(mustCalc(t, g)), want)
		for range 3 {
			sameTold(t, "R4: asked again", told(mustCalc(t, g)), want)
		}
	}
}
