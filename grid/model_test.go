package grid_test

import (
	"fmt"
	"maps"
	"math/rand"
	"slices"
	"testing"

	"quadrille/api"
	"quadrille/grid"
)

// model is what a grid has, as chapter 17 says it: contents that are not empty, by their cells.
type model map[api.Addr]api.Content

// put is Put by the chapter's words, for contents of which good says whether they may be.
func (m model) put(at api.Addr, c api.Content, good bool) api.Errno {
	_, there := m[at]
	switch {
	case !good:
		return api.ErrArg
	case at.Col < 1 || at.Col > 256 || at.Row < 1 || at.Row > 4096:
		return api.ErrAddr
	case c.Kind == api.Empty:
		delete(m, at)
	case !there && len(m) >= 4096:
		return api.ErrFull
	default:
		m[at] = clean(c)
	}
	return api.OK
}

// within are the cells that an area has, by row, then by column; none of an area that may not be.
func (m model) within(a api.Area) []api.Put {
	var l []api.Put
	if a.From.Col > a.To.Col || a.From.Row > a.To.Row || a.From.Col < 1 || a.From.Row < 1 || a.To.Col > 256 || a.To.Row > 4096 {
		return nil
	}
	for at, c := range m {
		if a.From.Col <= at.Col && at.Col <= a.To.Col && a.From.Row <= at.Row && at.Row <= a.To.Row {
			l = append(l, api.Put{At: at, C: c})
		}
	}
	slices.SortFunc(l, func(x, y api.Put) int { return (x.At.Row-y.At.Row)*1000 + x.At.Col - y.At.Col })
	return l
}

func (m model) all() []api.Put { return m.within(areaAt("A1:IV4096")) }

func (m model) bounds() (api.Area, bool) {
	l := m.all()
	if len(l) == 0 {
		return api.Area{}, false
	}
	a := api.Area{From: l[0].At, To: l[len(l)-1].At}
	for _, p := range l {
		a.From.Col, a.To.Col = min(a.From.Col, p.At.Col), max(a.To.Col, p.At.Col)
	}
	return a, true
}

// puts are those that lead from m to o.
func (m model) puts(o model) []api.Put {
	both := maps.Clone(m)
	maps.Copy(both, o)
	var l []api.Put
	for _, p := range both.all() {
		if told(m[p.At]) != told(o[p.At]) {
			l = append(l, api.Put{At: p.At, C: o[p.At]})
		}
	}
	return l
}

// check holds all that a grid tells against a model.
func (m model) check(t *testing.T, about string, g *grid.Grid) {
	t.Helper()
	if g.Len() != len(m) {
		t.Errorf("P17.2: %s: Len is %d, not %d", about, g.Len(), len(m))
	}
	if got, want := puts(g.All()), m.all(); !samePuts(got, want) {
		t.Errorf("P17.3: %s: All is %s, not %s", about, short(toldPuts(got)), short(toldPuts(want)))
	}
	got, is := g.Bounds()
	if want, wantIs := m.bounds(); got != want || is != wantIs {
		t.Errorf("P17.3: %s: Bounds is %v %v, not %v %v", about, got, is, want, wantIs)
	}
	for _, p := range m.all() {
		for _, at := range []api.Addr{p.At, {Col: p.At.Col + 1, Row: p.At.Row}, {Col: p.At.Col, Row: p.At.Row + 1}} {
			if got, want := g.Get(at), m[at]; told(got) != told(want) {
				t.Errorf("P17.2: %s: Get(%v) is %s, not %s", about, at, short(told(got)), short(told(want)))
			}
		}
	}
}

// checkIn holds what In tells of some areas against a model.
func (m model) checkIn(t *testing.T, about string, g *grid.Grid, areas ...api.Area) {
	t.Helper()
	for _, a := range areas {
		if got, want := puts(g.In(a)), m.within(a); !samePuts(got, want) {
			t.Errorf("P17.3: %s: In(%v) is %s, not %s", about, a, short(toldPuts(got)), short(toldPuts(want)))
		}
	}
}

// maker makes cells and contents by chance.
type maker struct {
	*rand.Rand
	good, bad []api.Content
}

func made(seed int64) maker {
	l := good()
	for _, x := range nans() {
		l = append(l, num(x))
	}
	return maker{rand.New(rand.NewSource(seed)), l, bad()}
}

// cell is one of the first so many columns and rows, seldom none at all.
func (m maker) cell(cols, rows int) api.Addr {
	if m.Intn(40) == 0 {
		return noCells()[m.Intn(len(noCells()))]
	}
	return api.Addr{Col: 1 + m.Intn(cols), Row: 1 + m.Intn(rows)}
}

func (m maker) area(cols, rows int) api.Area {
	a := api.Area{From: m.cell(cols, rows), To: m.cell(cols, rows)}
	if a.From.Col > a.To.Col && m.Intn(4) > 0 {
		a.From.Col, a.To.Col = a.To.Col, a.From.Col
	}
	if a.From.Row > a.To.Row && m.Intn(4) > 0 {
		a.From.Row, a.To.Row = a.To.Row, a.From.Row
	}
	return a
}

// content is one, and whether it may be.
func (m maker) content() (api.Content, bool) {
	switch k := m.Intn(20); {
	case k == 0:
		return m.bad[m.Intn(len(m.bad))], false
	case k < 6:
		return api.Content{F: zeroNodes()[m.Intn(4)]}, true
	}
	return m.good[m.Intn(len(m.good))], true
}

// step puts something into a grid and into its model, and tells the error.
func (m maker) step(t *testing.T, g *grid.Grid, w model, cols, rows int) api.Errno {
	t.Helper()
	at := m.cell(cols, rows)
	c, ok := m.content()
	err := g.Put(at, c)
	if want := w.put(at, c, ok); err != want {
		t.Fatalf("P17.2: Put(%v, a content of Kind %d): %d, not %d", at, c.Kind, err, want)
	}
	return err
}

func TestGridsByChance(t *testing.T) {
	m := made(171)
	errs := map[api.Errno]int{}
	for i := range 60 {
		g, w := grid.New(), model{}
		cols, rows := 1+m.Intn(6), 1+m.Intn(6)
		for j := range 120 {
			errs[m.step(t, g, w, cols, rows)]++
			about := fmt.Sprintf("grid %d, step %d", i, j)
			if j%7 == 0 {
				w.check(t, about, g)
				w.checkIn(t, about, g, m.area(cols, rows), m.area(cols+2, rows+2), m.area(256, 4096))
			}
			if at := m.cell(cols, rows); told(g.Get(at)) != told(w[at]) {
				t.Errorf("P17.2: %s: Get(%v) is %s, not %s", about, at, short(told(g.Get(at))), short(told(w[at])))
			}
			if t.Failed() {
				return
			}
		}
	}
	if errs[api.OK] < 1000 || errs[api.ErrArg] < 100 || errs[api.ErrAddr] < 50 {
		t.Errorf("too few of a sort: %v", errs)
	}
}

func TestPairsByChance(t *testing.T) {
	m := made(172)
	for i := range 80 {
		g, w := grid.New(), model{}
		for range m.Intn(40) {
			m.step(t, g, w, 5, 5)
		}
		o, v := g.Clone(), maps.Clone(w)
		if m.Intn(5) == 0 {
			o, v = grid.New(), model{}
		}
		for range m.Intn(20) {
			if m.Intn(2) == 0 {
				m.step(t, g, w, 5, 5)
			} else {
				m.step(t, o, v, 5, 5)
			}
			about := fmt.Sprintf("pair %d", i)
			w.check(t, about, g)
			v.check(t, about, o)
			same := len(w.puts(v)) == 0
			if g.Equal(o) != same || o.Equal(g) != same {
				t.Errorf("P17.4: %s: Equal is not %v", about, same)
			}
			for _, d := range [][2][]api.Put{{g.Puts(o), w.puts(v)}, {o.Puts(g), v.puts(w)}} {
				if !samePuts(d[0], d[1]) {
					t.Errorf("P17.4: %s: Puts is %s, not %s", about, short(toldPuts(d[0])), short(toldPuts(d[1])))
				}
			}
			if t.Failed() {
				return
			}
		}
	}
}
