package edits_test

import (
	"fmt"
	"slices"
	"strings"
	"testing"

	"quadrille/api"
	"quadrille/edits"
	"quadrille/grid"
)

// P21.1: New, Do, Become.

func TestExamples(t *testing.T) {
	b := edits.New()
	is(t, "New: Undo", b.Undo(), api.ErrBack)
	is(t, "New: Redo", b.Redo(), api.ErrBack)
	counts(t, "New", b, 0, 0)
	sameTold(t, "New: Last", toldPuts(b.Last()), "")
	do(t, b, "A1", 7.0)
	do(t, b, "A1", 7.0)
	counts(t, "7 twice", b, 1, 0)
	do(t, b, "A2", "=A1")
	shows(t, b, "A2", 7.0)
	refused(t, "A1 = A2", b, puts("A1", "=A2"), 0, api.ErrCycle)
	counts(t, "behind the circle", b, 2, 0)
	shows(t, b, "A2", 7.0)
	is(t, "Undo", b.Undo(), api.OK)
	shows(t, b, "A2", nil)
	counts(t, "behind Undo", b, 1, 1)
	sameTold(t, "Last", toldPuts(b.Last()), toldPuts(puts("A1", nil)))
	is(t, "Redo", b.Redo(), api.OK)
	shows(t, b, "A2", 7.0)
	is(t, "Undo", b.Undo(), api.OK)
	do(t, b, "B1", 1.0)
	counts(t, "another step", b, 2, 0)
	is(t, "Redo of nothing", b.Redo(), api.ErrBack)
	b = edits.New()
	for i := range 65 {
		do(t, b, "A1", float64(i))
	}
	counts(t, "65 steps", b, 64, 0)
	is(t, "Become(nil)", b.Become(nil), api.ErrArg)
	is(t, "Become of a circle", b.Become(gridOf("A1", "=A2", "A2", "=A1")), api.ErrCycle)
}

func TestNew(t *testing.T) {
	for what, b := range map[string]*edits.Book{"New": edits.New(), "made by hand": {}, "new": new(edits.Book)} {
		newModel().holdsAll(t, what, b)
	}
	// Each call first of all others, of one that New didn't make.
	for i, f := range []func(b *edits.Book){
		func(b *edits.Book) { do(t, b, "A1", 1.0) },
		func(b *edits.Book) { do(t, b) },
		func(b *edits.Book) { is(t, "Become", b.Become(gridOf("A1", 1.0)), api.OK) },
		func(b *edits.Book) { is(t, "Become(nil)", b.Become(nil), api.ErrArg) },
		func(b *edits.Book) { is(t, "Undo", b.Undo(), api.ErrBack) },
		func(b *edits.Book) { is(t, "Redo", b.Redo(), api.ErrBack) },
		func(b *edits.Book) { counts(t, "by hand", b, 0, 0) },
		func(b *edits.Book) { sameTold(t, "Sheet", toldSheet(b.Sheet()), "worked [], changed []\n") },
		func(b *edits.Book) { shows(t, b, "A1", nil) },
		func(b *edits.Book) { sameTold(t, "Last", toldPuts(b.Last()), "") },
	} {
		hand, made := &edits.Book{}, edits.New()
		f(hand)
		f(made)
		sameTold(t, fmt.Sprint("R1: a Book made by hand, call ", i), toldBook(hand), toldBook(made))
	}
	// Two books have nothing to do with each other.
	a, b := edits.New(), edits.New()
	do(t, a, "A1", 1.0)
	newModel().holdsAll(t, "beside another book", b)
}

func TestNil(t *testing.T) {
	var b *edits.Book
	for _, batch := range [][]api.Put{nil, puts("A1", 1.0), puts(xy(0, 0), 1.0), puts("B1", 1.0, "A1", "=A1"), make([]api.Put, 300)} {
		if n, err := b.Do(batch...); n != 0 || err != api.ErrArg {
			t.Errorf("R1: Do of %d puts of nil: %d, error %d", len(batch), n, err)
		}
	}
	for _, g := range []*grid.Grid{nil, grid.New(), gridOf("A1", 1.0), gridOf("A1", "=A1")} {
		is(t, "R1: Become of nil", b.Become(g), api.ErrArg)
	}
	is(t, "R1: Undo of nil", b.Undo(), api.ErrArg)
	is(t, "R1: Redo of nil", b.Redo(), api.ErrArg)
	counts(t, "R1: of nil", b, 0, 0)
	if s := b.Sheet(); s != nil {
		t.Error("R1: Sheet of nil is something")
	}
	if len(b.Last()) > 0 {
		t.Error("R1: Last of nil is something")
	}
	for _, at := range append(noCells(), cell("A1"), cell("IV4096")) {
		if v := b.Value(at); toldValue(v) != toldValue(api.Value{}) {
			t.Errorf("R1: Value of nil: %s", toldValue(v))
		}
	}
}

// longRow is a book in the middle of a row of steps, as many behind as ahead, and its model.
func longRow(t testing.TB, steps int) (*edits.Book, *model) {
	t.Helper()
	b, m := edits.New(), newModel()
	for i := range 2 * steps {
		batch := puts("A1", float64(i+1), xy(3, 1+i%7), "="+name(xy(1, 1+i%3))+"+1", xy(4, 1+i%5), nil, xy(5, 1+i%5), strings.Repeat("x", i%4), "F1", "=SUM(A1:E9)")
		taken(t, b, batch)
		m.do(batch)
	}
	for range steps {
		is(t, "Undo", b.Undo(), m.undo())
	}
	counts(t, "a long row", b, steps, steps)
	return b, m
}

// TestSizes: batches of no put, of one, of as many as may be, of one more and of many more.
func TestSizes(t *testing.T) {
	number := func(i int) any { return float64(i) }
	for _, count := range []int{1, 2, api.MaxBatch - 1, api.MaxBatch} {
		b, m := longRow(t, 2)
		batch := many(1000, count, number)
		taken(t, b, batch)
		m.do(batch)
		counts(t, fmt.Sprintf("P21.1: a batch of %d", count), b, 3, 0)
		m.holdsAll(t, fmt.Sprintf("a batch of %d", count), b)
	}
	b, _ := longRow(t, 2)
	for _, batch := range [][]api.Put{nil, {}, make([]api.Put, 0, 9)} {
		noStep(t, "a batch of no put", b, batch)
		noStep(t, "a batch of no put of a new book", edits.New(), batch)
	}
	for _, count := range []int{api.MaxBatch + 1, 2 * api.MaxBatch, 5000} {
		refused(t, fmt.Sprintf("%d puts", count), b, many(1000, count, number), api.MaxBatch, api.ErrMany)
	}
	// Too many are too many, whatever they are.
	for i, p := range []api.Put{{At: xy(0, 1)}, {C: api.Content{Kind: 3}}, {At: cell("A1")}, {At: cell("A1"), C: fx("A1")}} {
		refused(t, fmt.Sprintf("too many of sort %d", i), b, slices.Repeat([]api.Put{p}, api.MaxBatch+1), api.MaxBatch, api.ErrMany)
	}
}

// TestRefused: for each reason, with the number of the put, in the middle of long rows and at their ends.
func TestRefused(t *testing.T) {
	good := puts("A1", 55.0, "C3", nil, "D4", "=A1", "A3", "=A1+1", "E5", "y")
	with := func(at int, p api.Put) []api.Put { return slices.Insert(slices.Clone(good), at, p) }
	middle, _ := longRow(t, 5)
	end, _ := longRow(t, 5)
	for end.Redo() == api.OK {
	}
	beginning, _ := longRow(t, 5)
	for beginning.Undo() == api.OK {
	}
	for what, b := range map[string]*edits.Book{"middle": middle, "end": end, "beginning": beginning, "new": edits.New()} {
		for i := range len(good) + 1 {
			for _, at := range []api.Addr{{}, xy(257, 1), xy(1, 4097), xy(-1, 1)} {
				refused(t, fmt.Sprintf("%s: the cell %v as put %d", what, at, i), b, with(i, api.Put{At: at, C: content(1.0)}), i, api.ErrAddr)
			}
			for k, c := range noContents() {
				refused(t, fmt.Sprintf("%s: content %d as put %d", what, k, i), b, with(i, api.Put{At: cell("G6"), C: c}), i, api.ErrArg)
			}
			refused(t, fmt.Sprintf("%s: D4 twice, put %d", what, i), b, with(i, api.Put{At: cell("D4"), C: content(2.0)}), max(i, 3), api.ErrTwice)
			refused(t, fmt.Sprintf("%s: H1 = H1 as put %d", what, i), b, with(i, api.Put{At: cell("H1"), C: fx("H1")}), i, api.ErrCycle)
		}
		refused(t, what+": a circle of three", b, puts("G1", 1.0, "H1", "=H2", "H2", "=H3", "H3", "=H1"), 1, api.ErrCycle)
		refused(t, what+": a circle of an area", b, puts("H9", 1.0, "G9", "=SUM(A1:H9)"), 1, api.ErrCycle)
	}
	refused(t, "a circle with what is there", end, puts("Z1", 1.0, "A1", "=F1"), 1, api.ErrCycle)
	// The same as Become: the error without a number.
	was := toldBook(middle)
	is(t, "P21.1: Become(nil)", middle.Become(nil), api.ErrArg)
	is(t, "P21.1: Become of a small circle", middle.Become(gridOf("A1", "=A1")), api.ErrCycle)
	g := middle.Sheet().Grid()
	g.Put(cell("A1"), fx("F1"))
	is(t, "P21.1: Become of what is there and a circle", middle.Become(g), api.ErrCycle)
	is(t, "P21.1: Become of a ring of many cells", middle.Become(gridBy(ring(300))), api.ErrCycle)
	is(t, "P21.1: Become of a ring of all cells", middle.Become(gridBy(ring(api.MaxCells))), api.ErrCycle)
	sameTold(t, "P21.4: the book behind what is refused", toldBook(middle), was)
}

// ring are cells each of which uses the next one, and the last one the first one.
func ring(count int) []api.Put {
	return many(0, count, func(i int) any { return "=" + name(place((i+1)%count)) })
}

// TestFirstError: of several the one that live names first.
func TestFirstError(t *testing.T) {
	no, c, one := xy(0, 5), api.Content{Kind: 3}, content(1.0)
	a1, b1 := cell("A1"), cell("B1")
	for i, x := range []struct {
		batch  []api.Put
		number int
		err    api.Errno
	}{
		{[]api.Put{{At: no, C: c}}, 0, api.ErrAddr},
		{[]api.Put{{At: a1, C: c}, {At: no, C: one}}, 0, api.ErrArg},
		{[]api.Put{{At: a1, C: one}, {At: a1, C: c}}, 1, api.ErrArg},
		{[]api.Put{{At: a1, C: one}, {At: a1, C: one}, {At: a1, C: c}}, 1, api.ErrTwice},
		{[]api.Put{{At: a1, C: one}, {At: b1, C: c}, {At: a1, C: one}}, 1, api.ErrArg},
		{append(puts("A1", "=A1"), api.Put{At: no, C: one}), 1, api.ErrAddr},
		{append(puts("A1", "=A1"), api.Put{At: b1, C: c}), 1, api.ErrArg},
		{puts("A1", "=A1", "A1", 1.0), 1, api.ErrTwice},
	} {
		for _, list := range [][]any{nil, {"A1", 3.0, "B1", "=A1"}, {"B1", 3.0, "A1", "=B1"}} {
			b := edits.New()
			do(t, b, list...)
			refused(t, fmt.Sprintf("row %d", i), b, x.batch, x.number, x.err)
		}
	}
}

// TestFull: no more than MaxCells cells.
func TestFull(t *testing.T) {
	b, m := edits.New(), newModel()
	do(t, b, "A4000", 1.0)
	m.do(puts("A4000", 1.0))
	all := gridBy(many(0, api.MaxCells, func(i int) any { return float64(i) }))
	is(t, "P21.1: Become of a full grid", b.Become(all), m.become(all))
	m.holds(t, "a full grid", b)
	for i, batch := range [][]api.Put{puts("A4000", 1.0), puts("A4000", "=A1"), puts("A1", 5.0, "A4000", 1.0), puts("A1", nil, "A4000", 1.0, "B4000", 1.0), puts("A4000", nil, "B4000", 1.0), puts("A1", "=A1", "A4000", 1.0)} {
		if n, err := b.Do(batch...); n != 0 || err != api.ErrFull {
			t.Errorf("P21.1: batch %d of a full book: %d, error %d", i, n, err)
		}
	}
	m.holds(t, "a full grid, behind what is refused", b)
	counts(t, "a full grid, behind what is refused", b, 2, 0)
	// One for another, in whichever order, and back again, the book being full all along.
	for _, batch := range [][]api.Put{puts("A4000", 1.0, "A1", nil), puts("B1", nil, "IV4096", "=SUM(A1:A9)")} {
		taken(t, b, batch)
		m.do(batch)
	}
	m.holdsAll(t, "one for another", b)
	if n, err := b.Do(puts("B4000", 1.0, "A4000", "=A4000")...); n != 0 || err != api.ErrFull {
		t.Errorf("P21.1: no room goes ahead of a circle: %d, error %d", n, err)
	}
	m.holds(t, "no room and a circle", b)
}

// TestNoStep: what leads to the contents that are there, with and without contents ahead.
func TestNoStep(t *testing.T) {
	middle, _ := longRow(t, 3)
	end, _ := longRow(t, 3)
	for end.Redo() == api.OK {
	}
	for _, b := range []*edits.Book{middle, end} {
		var all []api.Put
		for at, c := range b.Sheet().Grid().All() {
			all = append(all, api.Put{At: at, C: c})
			noStep(t, "what "+name(at)+" has", b, []api.Put{{At: at, C: c}})
		}
		noStep(t, "what all have", b, all)
		slices.Reverse(all)
		noStep(t, "what all have, turned round", b, all)
		noStep(t, "Empty into empty cells", b, puts("Z1", nil, "Z2", nil, "IV4096", nil))
		noStep(t, "what is there and Empty", b, append(all, puts("Z1", nil)...))
	}
	noStep(t, "Empty into a new book", edits.New(), puts("A1", nil))
	b := edits.New()
	is(t, "Become of no cell", b.Become(grid.New()), api.OK)
	is(t, "Become of no cell", b.Become(&grid.Grid{}), api.OK)
	newModel().holdsAll(t, "Become of no cell, of a new book", b)
}

// alike are lists of contents no two of which are the same, however alike they are.
func alike() [][]any {
	return [][]any{
		{0.0, minus, nil, "", "0", "-0", false, "=0", "=-0"},
		{nans()[0], inf, -inf, 0.0, "NaN", api.FaultNum},
		{"=A2", "=$A2", "=A$2", "=$A$2", "=+A2", "=SUM(A2)", "=SUM(A2:A3)", "=SUM($A2:A3)", "=SUM(A2:A$3)", "=SUM(A2,A3)"},
		{"a", "A", "a ", " a", "aa", "", "ä", "a\u0308", "=\"a\"", true, "TRUE"},
		{1.0, 1 + 0x1p-52, 1 - 0x1p-53, "1", true, "=1", "=1+0", "=0+1", "=TRUE"},
		{5e-324, 0.0, -5e-324, minus},
		{api.FaultDiv, api.FaultNum, api.FaultValue, api.FaultRef, api.FaultNone, "#DIV!", "=#DIV!", "=1/0"},
	}
}

// TestAlike: contents that differ by little are others, and those that don't differ are not.
func TestAlike(t *testing.T) {
	for i, list := range alike() {
		for k, x := range list {
			for j, y := range list {
				about := fmt.Sprintf("list %d: %v, then %v", i, x, y)
				b, c, m := edits.New(), edits.New(), newModel()
				for _, z := range []any{x, y} {
					batch := puts("A1", z, "A5", "=A1&A6")
					taken(t, b, batch)
					is(t, "P21.1: "+about+": Become", c.Become(gridBy(batch)), api.OK)
					m.do(batch)
				}
				want := 2
				if k == j {
					want = 1
				}
				counts(t, "P21.1: "+about, b, want, 0)
				m.holdsAll(t, about, b)
				m.holdsAll(t, about+", by Become", c)
			}
		}
	}
	// Every NaN is the NaN.
	b := edits.New()
	do(t, b, "A1", nans()[0])
	for _, x := range nans() {
		noStep(t, "another NaN", b, puts("A1", x))
		is(t, "Become of another NaN", b.Become(gridOf("A1", x)), api.OK)
		counts(t, "Become of another NaN", b, 1, 0)
	}
}

// TestBecome: one step, however many cells differ, and back again.
func TestBecome(t *testing.T) {
	for _, count := range []int{1, 2, api.MaxBatch - 1, api.MaxBatch, api.MaxBatch + 1, 2 * api.MaxBatch, 1000, api.MaxCells} {
		about := fmt.Sprintf("Become of %d cells", count)
		b, m := longRow(t, 2)
		for _, g := range []*grid.Grid{
			gridBy(many(0, count, func(i int) any { return float64(i) })),
			grid.New(), // all of them go
			gridBy(many(4096, count, func(i int) any { return "=" + name(place(i)) })),
			gridBy(many(0, count, func(i int) any { return "x" })), // other cells altogether
			gridBy(many(0, count, func(i int) any { return "=" + name(place(i+4096)) })),
			gridBy(many(4096, count, func(i int) any { return "=" + name(place(i)) })), // each uses one that used it
		} {
			is(t, "P21.1: "+about, b.Become(g), api.OK)
			m.become(g)
			m.holds(t, about, b)
		}
		counts(t, "P21.1: "+about, b, 8, 0)
		m.holdsAll(t, about, b)
	}
}

// TestTurnedRound: chains that are turned round, which can't be done part by part: there would be circles in between.
func TestTurnedRound(t *testing.T) {
	for _, count := range []int{2, 3, api.MaxBatch, api.MaxBatch + 1, api.MaxCells} {
		down := many(0, count, func(i int) any {
			if i == count-1 {
				return 7.0
			}
			return "=" + name(place(i+1)) + "+1"
		})
		up := many(0, count, func(i int) any {
			if i == 0 {
				return 1000.0
			}
			return "=" + name(place(i-1)) + "-1"
		})
		about := fmt.Sprintf("chains of %d", count)
		b, m := edits.New(), newModel()
		for _, batch := range [][]api.Put{down, up, down, up} {
			is(t, "P21.1: "+about, b.Become(gridBy(batch)), api.OK)
			m.become(gridBy(batch))
			if count > api.MaxBatch {
				continue
			}
			noStep(t, about, b, batch)
			slices.Reverse(batch)
			noStep(t, about, b, batch)
		}
		m.holdsAll(t, about, b)
		if count > api.MaxBatch {
			continue
		}
		c := edits.New()
		for _, batch := range [][]api.Put{down, up, down, up} {
			taken(t, c, batch)
		}
		m.holdsAll(t, about+", by Do", c)
	}
}
