package move_test

import (
	"fmt"
	"math/rand"
	"slices"
	"testing"

	"quadrille/addr"
	"quadrille/api"
	"quadrille/edits"
	"quadrille/formula"
	"quadrille/grid"
	"quadrille/move"
	"quadrille/whole"
)

// P22.8 to P22.10: what follows.

// lineWay is rows, or columns: the call, how many there are, and an area's last line.
type lineWay struct {
	cols bool
	most int
	do   func(g *grid.Grid, at, n int) (*grid.Grid, api.Errno)
	last func(a api.Area) int
}

func lineWays() []lineWay {
	return []lineWay{
		{false, api.MaxRow, move.Rows, func(a api.Area) int { return a.To.Row }},
		{true, api.MaxCol, move.Cols, func(a api.Area) int { return a.To.Col }},
	}
}

// areasOf are the areas of a grid's NodeAreas; with refs also those of its NodeRefs.
func areasOf(g *grid.Grid, refs bool) []api.Area {
	var l []api.Area
	for _, c := range g.All() {
		for n := range formula.Nodes(c.F) {
			if n.Kind == api.NodeArea || refs && n.Kind == api.NodeRef {
				l = append(l, named(n))
			}
		}
	}
	return l
}

// reaches tells whether a grid's areas have one of the last n lines.
func (w lineWay) reaches(g *grid.Grid, n int) bool {
	return slices.ContainsFunc(areasOf(g, false), func(a api.Area) bool { return w.last(a) > w.most-n })
}

// bare is a grid all of whose formulas' references are the same.
func bare(g *grid.Grid) *grid.Grid {
	o := grid.New()
	for at, c := range g.All() {
		c.F = bareNode(c.F)
		put(o, at, c)
	}
	return o
}

func bareNode(n api.Node) api.Node {
	if n.Kind == api.NodeRef || n.Kind == api.NodeArea || n.Kind == api.NodeFault && n.F == api.FaultRef {
		return api.Node{Kind: api.NodeFault, F: api.FaultRef}
	}
	for i, a := range n.Args {
		n.Args[i] = bareNode(a)
	}
	return n
}

// atLines is a line's number, and how many are put in: few, or about as many as the window has room for.
func (m maker) atLines(w lineWay) (at, n int) {
	from, to := m.window.From.Row, m.window.To.Row
	if w.cols {
		from, to = m.window.From.Col, m.window.To.Col
	}
	at = max(1, min(w.most, m.between(from-1, to+1)))
	n = m.between(0, 5)
	if m.Intn(4) == 0 {
		n = m.between(max(0, w.most-to-2), w.most-to)
	}
	return at, n
}

// TestPutInAndTakenOut: P22.8's first sentence, Q5.
func TestPutInAndTakenOut(t *testing.T) {
	r := rand.New(rand.NewSource(222))
	same, unlike, other := 0, 0, 0
	for i := range 6000 {
		m := newMaker(r)
		g := m.grid()
		for _, w := range lineWays() {
			at, n := m.atLines(w)
			h, err := w.do(g, at, n)
			if err != api.OK {
				other++
				continue
			}
			back, err := w.do(h, at, -n)
			about := fmt.Sprintf("P22.8: grid %d (%s), cols %v: %d lines at %d", i, short(told(g)), w.cols, n, at)
			if err != api.OK {
				t.Fatalf("%s: taken out: error %d", about, err)
			}
			if lostOf(h) == lostOf(g) && !w.reaches(g, n) {
				same++
				sameTold(t, about+", taken out again", toldGrid(back), toldGrid(g))
				if !back.Equal(g) {
					t.Errorf("%s, taken out again: not Equal", about)
				}
			} else if !back.Equal(g) {
				unlike++
			}
			sameTold(t, about+", taken out again: but for references", toldGrid(bare(back)), toldGrid(bare(g)))
			if t.Failed() {
				return
			}
		}
	}
	if same < 1000 || unlike < 100 || other < 100 {
		t.Errorf("too few: %d are the same, %d are not, %d are refused", same, unlike, other)
	}
}

// TestPutInTwice: P22.8's second sentence.
func TestPutInTwice(t *testing.T) {
	r := rand.New(rand.NewSource(223))
	same, refused := 0, 0
	for i := range 6000 {
		m := newMaker(r)
		g := m.grid()
		for _, w := range lineWays() {
			at, n := m.atLines(w)
			more := m.between(0, 4)
			if n+more > w.most {
				continue
			}
			about := fmt.Sprintf("P22.8: grid %d (%s), cols %v: %d and %d lines at %d", i, short(told(g)), w.cols, n, more, at)
			once, err := w.do(g, at, n+more)
			twice, due := w.do(g, at, n)
			if due == api.OK {
				twice, due = w.do(twice, at, more)
			}
			if err != due {
				t.Fatalf("%s: error %d, at once %d", about, due, err)
			}
			if err != api.OK {
				refused++
				continue
			}
			if lostOf(once) == lostOf(g) && !w.reaches(g, n+more) {
				same++
				sameTold(t, about, toldGrid(twice), toldGrid(once))
			}
			if t.Failed() {
				return
			}
		}
	}
	if same < 1000 || refused < 100 {
		t.Errorf("too few: %d are the same, %d are refused", same, refused)
	}
}

// TestTakenOutTwice: P22.8's third sentence.
func TestTakenOutTwice(t *testing.T) {
	r := rand.New(rand.NewSource(224))
	for i := range 4000 {
		m := newMaker(r)
		g := m.grid()
		for _, w := range lineWays() {
			at, n := m.atLines(w)
			more := m.between(0, 4)
			if r.Intn(9) == 0 {
				n = m.between(0, w.most)
				more = m.between(0, w.most-n)
			}
			if n+more > w.most {
				continue
			}
			once, err := w.do(g, at, -n-more)
			half, errHalf := w.do(g, at, -n)
			twice, errTwice := w.do(half, at, -more)
			if err != api.OK || errHalf != api.OK || errTwice != api.OK {
				t.Fatalf("P22.8: %d and %d lines out from %d on: errors %d, %d, %d", n, more, at, err, errHalf, errTwice)
			}
			sameTold(t, fmt.Sprintf("P22.8: grid %d (%s), cols %v: %d and %d lines out from %d on", i, short(told(g)), w.cols, n, more, at), toldGrid(twice), toldGrid(once))
			if t.Failed() {
				return
			}
		}
	}
}

// TestLinesThereAndBack: by hand: what is the same again, and what isn't.
func TestLinesThereAndBack(t *testing.T) {
	for _, c := range []struct {
		g     string
		at, n int
		want  string
	}{
		{chapter, 2, 5, chapter}, {chapter, 1, 4093, chapter}, {chapter, 3, 1, chapter}, {chapter, 4096, 4096, chapter},
		{"A1 =SUM(A2:A4095)", 3, 1, "A1 =SUM(A2:A4095)"}, {"A1 =SUM(A2:A4095)", 3, 2, "A1 =SUM(A2:A4094)"}, {"A1 =SUM(A2:A4096)", 3, 1, "A1 =SUM(A2:A4095)"}, {"A1 =SUM(A2:A4096)", 4096, 1, "A1 =SUM(A2:A4095)"},
		{"A1 =A4096+A4095", 2, 1, "A1 =#REF!+A4095"}, {"A1 =A4096+A4095", 2, 2, "A1 =#REF!+#REF!"}, {"A1 =SUM(A4096:B4096)", 2, 1, "A1 =SUM(#REF!)"},
	} {
		h := rows(c.at, c.n).mustDo(t, laid(c.g))
		rows(c.at, -c.n).comesTo(t, h, c.want)
	}
}

// shown is what cells show, by the places to which they are brought; false, if there is a circle.
func shown(t testing.TB, g *grid.Grid, place func(at api.Addr) api.Addr) (string, bool) {
	t.Helper()
	list, err := whole.Calc(g)
	if err == api.ErrCycle {
		return "", false
	}
	if err != api.OK {
		t.Fatalf("Calc: error %d", err)
	}
	for i, c := range list {
		list[i].At = place(c.At)
	}
	slices.SortFunc(list, func(a, b api.Cell) int { return addr.Order(a.At, b.At) })
	text := ""
	for _, c := range list {
		text += name(c.At) + " " + toldValue(c.V) + "\n"
	}
	return text, true
}

func here(at api.Addr) api.Addr { return at }

// TestShownBehindLines: P22.9's first sentence.
func TestShownBehindLines(t *testing.T) {
	r := rand.New(rand.NewSource(225))
	held, circles := 0, 0
	for i := range 5000 {
		m := newMaker(r)
		g := m.grid()
		for _, w := range lineWays() {
			at, n := m.atLines(w)
			h, err := w.do(g, at, n)
			if err != api.OK || lostOf(h) > lostOf(g) {
				continue
			}
			want, ok := shown(t, g, func(a api.Addr) api.Addr {
				if w.cols && a.Col >= at {
					a.Col += n
				} else if !w.cols && a.Row >= at {
					a.Row += n
				}
				return a
			})
			got, still := shown(t, h, here)
			if ok != still {
				t.Fatalf("P22.9: grid %d: a circle: %v, %v", i, !ok, !still)
			}
			if !ok {
				circles++
			} else {
				held++
			}
			sameTold(t, fmt.Sprintf("P22.9: grid %d (%s), cols %v: %d lines at %d", i, short(told(g)), w.cols, n, at), got, want)
			if t.Failed() {
				return
			}
		}
	}
	if held < 1000 || circles < 100 {
		t.Errorf("too few: %d held, %d circles", held, circles)
	}
}

// meets tells whether two areas have a cell in common.
func meets(a, b api.Area) bool {
	_, ok := addr.Meet(a, b)
	return ok
}

// free tells whether nothing lies in an area, and no formula names a cell of it.
func free(g *grid.Grid, there api.Area) bool {
	for range g.In(there) {
		return false
	}
	return !slices.ContainsFunc(areasOf(g, true), func(a api.Area) bool { return meets(a, there) })
}

// crosses tells whether a formula names an area that has cells of one area, and others.
func crosses(g *grid.Grid, from api.Area) bool {
	return slices.ContainsFunc(areasOf(g, false), func(a api.Area) bool {
		both, ok := addr.Meet(a, from)
		return ok && both != a
	})
}

// moves goes over moves by chance whose target is free.
func moves(t *testing.T, seed int64, each func(g *grid.Grid, from, there api.Area, h *grid.Grid)) {
	t.Helper()
	r := rand.New(rand.NewSource(seed))
	for range 25000 {
		m := newMaker(r)
		g := m.grid()
		from, to := m.area(), m.near()
		if m.Intn(3) == 0 {
			to = xy(m.between(1, 256), m.between(1, 4096))
		}
		there, err := addr.Area(to, xy(to.Col+from.To.Col-from.From.Col, to.Row+from.To.Row-from.From.Row))
		if err != api.OK || !free(g, there) {
			continue
		}
		each(g, from, there, moved(from, to).mustDo(t, g))
		if t.Failed() {
			return
		}
	}
}

// TestShownBehindMove: P22.9's second sentence.
func TestShownBehindMove(t *testing.T) {
	held, circles, over := 0, 0, 0
	moves(t, 226, func(g *grid.Grid, from, there api.Area, h *grid.Grid) {
		if crosses(g, from) {
			return
		}
		want, ok := shown(t, g, func(at api.Addr) api.Addr {
			if has(from, at) {
				return xy(at.Col+there.From.Col-from.From.Col, at.Row+there.From.Row-from.From.Row)
			}
			return at
		})
		got, still := shown(t, h, here)
		if ok != still {
			t.Fatalf("P22.9: %s: a circle: %v, %v", told(g), !ok, !still)
		}
		if ok {
			held++
		} else {
			circles++
		}
		if meets(from, there) {
			over++
		}
		sameTold(t, fmt.Sprintf("P22.9: %s: %v to %v", short(told(g)), from, there), got, want)
	})
	if held < 300 || circles < 50 || over < 10 {
		t.Errorf("too few: %d held, %d circles, %d over themselves", held, circles, over)
	}
}

// TestMoveThereAndBack: P22.10's first sentence.
func TestMoveThereAndBack(t *testing.T) {
	held, over, crossed := 0, 0, 0
	moves(t, 227, func(g *grid.Grid, from, there api.Area, h *grid.Grid) {
		held++
		if meets(from, there) {
			over++
		}
		if crosses(g, from) {
			crossed++
		}
		back := moved(there, from.From).mustDo(t, h)
		sameTold(t, fmt.Sprintf("P22.10: %s: %v to %v and back", short(told(g)), from, there), toldGrid(back), toldGrid(g))
	})
	if held < 1000 || over < 20 || crossed < 100 {
		t.Errorf("too few: %d, %d over themselves, %d crossed", held, over, crossed)
	}
}

// TestOntoItselfAndTwice: the rest of P22.10.
func TestOntoItselfAndTwice(t *testing.T) {
	r := rand.New(rand.NewSource(228))
	for i := range 3000 {
		m := newMaker(r)
		g := m.grid()
		a := m.area()
		if i%100 == 0 {
			a = area("A1:IV4096")
		}
		about := fmt.Sprintf("P22.10: %s: %v", short(told(g)), a)
		sameTold(t, about+": Copy onto itself", toldGrid(copied(a, a.From).mustDo(t, g)), toldGrid(g))
		sameTold(t, about+": Move onto itself", toldGrid(moved(a, a.From).mustDo(t, g)), toldGrid(g))
		once := cleared(a).mustDo(t, g)
		sameTold(t, about+": Clear twice", toldGrid(cleared(a).mustDo(t, once)), toldGrid(once))
		for _, to := range []api.Addr{m.cell(), xy(m.between(1, 256), m.between(1, 4096))} {
			at := m.cell()
			one := filled(at, api.Area{From: to, To: to}).mustDo(t, g)
			two := copied(api.Area{From: at, To: at}, to).mustDo(t, g)
			sameTold(t, fmt.Sprintf("%s: Fill of one cell, %v to %v", about, at, to), toldGrid(one), toldGrid(two))
		}
		if t.Failed() {
			return
		}
	}
	g := full()
	filled(cell("A1"), area("A33")).isRefused(t, g, api.ErrFull)
	copied(area("A1"), cell("A33")).isRefused(t, g, api.ErrFull)
}

// TestWhatWasMovedIsWorkedOut: Q1, Q5: a book that becomes what was moved shows what that grid shows worked out at once, and what is taken back what it was.
func TestWhatWasMovedIsWorkedOut(t *testing.T) {
	r := rand.New(rand.NewSource(229))
	steps := 0
	for i := range 150 {
		m := newMaker(r)
		b := edits.New()
		if b.Become(m.grid()) != api.OK {
			continue
		}
		for range 6 {
			was := b.Sheet().Grid()
			a, _, _ := m.call(sheetOf(was))
			h, err := a.do(was)
			if err != api.OK {
				continue
			}
			want, ok := shown(t, h, here)
			if err := b.Become(h); (err == api.OK) != ok {
				t.Fatalf("Q3: grid %d: %s: error %d", i, a.what, err)
			}
			if !ok {
				continue
			}
			got := ""
			for _, c := range b.Sheet().Cells() {
				got += name(c.At) + " " + toldValue(c.V) + "\n"
			}
			sameTold(t, "Q1: "+a.what, got, want)
			if !h.Equal(was) {
				steps++
				b.Undo()
				sameTold(t, "Q5: "+a.what+", taken back", toldGrid(b.Sheet().Grid()), toldGrid(was))
				b.Redo()
				sameTold(t, "Q5: "+a.what+", done again", toldGrid(b.Sheet().Grid()), toldGrid(h))
			}
		}
	}
	if steps < 100 {
		t.Errorf("too few steps: %d", steps)
	}
}

// TestFormulaFollows: P22.8 of formulas alone.
func TestFormulaFollows(t *testing.T) {
	r := rand.New(rand.NewSource(230))
	goes := func(n api.Node, w lineWay, at, count int) api.Node {
		m, err := move.Formula(n, w.cols, at, count)
		if err != api.OK {
			t.Fatalf("P22.1: error %d", err)
		}
		return m
	}
	for range 5000 {
		m := newMaker(r)
		n := tree(m.text())
		for _, w := range lineWays() {
			at, k := m.atLines(w)
			more := min(m.between(0, 5), w.most-k)
			once := goes(n, w, at, k+more)
			sameTold(t, "P22.8: taken out twice", toldNode(goes(goes(n, w, at, -k), w, at, -more)), toldNode(goes(n, w, at, -k-more)))
			sameTold(t, "P22.1: by none", toldNode(goes(n, w, at, 0)), toldNode(n))
			reached := slices.ContainsFunc(formula.Uses(n), func(a api.Area) bool { return w.last(a) > w.most-k-more })
			if lostIn(once) == lostIn(n) && !reached {
				sameTold(t, "P22.8: put in and taken out", toldNode(goes(once, w, at, -k-more)), toldNode(n))
				sameTold(t, "P22.8: put in twice", toldNode(goes(goes(n, w, at, k), w, at, more)), toldNode(once))
			}
		}
	}
}
