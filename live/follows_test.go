package live_test

import (
	"fmt"
	"math/rand"
	"slices"
	"testing"

	"quadrille/api"
	"quadrille/live"
	"quadrille/whole"
)

// P20.5, Q1 to Q4, Q7, Q8: what follows.

// TestEveryOrder: a batch in every order comes to the same; Changed and Worked too.
func TestEveryOrder(t *testing.T) {
	there := []any{"A1", 1.0, "B1", "=A1+C1", "C1", 3.0, "D1", "=SUM(A1:C1)", "E1", "=D1>0"}
	for i, batch := range [][]any{
		{"A1", 2.0, "B1", "=A1*2", "C1", nil, "F1", "=D1&E1", "G1", "x"},
		{"A1", "=G1", "G1", "=H1", "H1", 1.0, "B1", "=A1"},
		{"A1", nil, "C1", "=A1", "D1", "=E1", "E1", "=C1", "H1", "=B1"},
		{"A1", 1.0, "C1", 3.0, "D1", "=SUM(A1:C1)"},
	} {
		want := ""
		for order := range orders(puts(batch...)) {
			s := sheetOf(t, there...)
			taken(t, s, order)
			if want == "" {
				want = toldSheet(s)
				isWhole(t, fmt.Sprint("batch ", i), s)
			}
			sameTold(t, fmt.Sprintf("P20.5: batch %d in another order", i), toldSheet(s), want)
		}
	}
}

// TestEveryOrderByChance: likewise, refused or not.
func TestEveryOrderByChance(t *testing.T) {
	r := rand.New(rand.NewSource(205))
	m := maker{r, xy(3, 3), 5, 5}
	counts := map[api.Errno]int{}
	s := live.New()
	for range 400 {
		batch := m.batch()
		a := s.Copy()
		_, err := a.Set(batch...)
		if counts[err]++; err == api.ErrAddr || err == api.ErrArg || err == api.ErrTwice {
			continue // with which put the first fault comes, the order says
		}
		want := toldSheet(a)
		for range 3 {
			b := s.Copy()
			r.Shuffle(len(batch), func(i, j int) { batch[i], batch[j] = batch[j], batch[i] })
			if _, err2 := b.Set(batch...); err2 != err {
				t.Fatalf("P20.5: in another order: error %d, not %d", err2, err)
			}
			sameTold(t, "P20.5: in another order", toldSheet(b), want)
		}
		s = a
	}
	if counts[api.OK] < 200 || counts[api.ErrCycle] < 50 {
		t.Errorf("too few of a sort: %v", counts)
	}
}

// TestCut: one batch cut into several, where none of these is refused, comes to the same contents, and so shows the same.
func TestCut(t *testing.T) {
	r := rand.New(rand.NewSource(206))
	m := maker{r, xy(2, 2), 6, 6}
	s, cut, refusals := live.New(), 0, 0
	for i := range 400 {
		batch := m.batch()
		a := s.Copy()
		if _, err := a.Set(batch...); err != api.OK {
			refusals++
			continue
		}
		b := s.Copy()
		ok := true
		for rest := batch; len(rest) > 0 && ok; {
			n := 1 + r.Intn(len(rest))
			_, err := b.Set(rest[:n]...)
			ok, rest = err == api.OK, rest[n:]
		}
		s = a
		if !ok {
			continue // a circle of what is there and a part of the batch
		}
		cut++
		sameTold(t, fmt.Sprintf("P20.5: batch %d cut", i), toldCells(b.Cells()), toldCells(a.Cells()))
	}
	if cut < 150 || refusals < 50 {
		t.Errorf("too few of a sort: %d cut, %d refused", cut, refusals)
	}
}

// TestTwoBatches: over other cells, one behind the other either way round.
func TestTwoBatches(t *testing.T) {
	r := rand.New(rand.NewSource(207))
	m := maker{r, xy(2, 2), 6, 6}
	s, both := live.New(), 0
	for range 600 {
		x, y := m.batch(), m.batch()
		y = slices.DeleteFunc(y, func(p api.Put) bool {
			return slices.ContainsFunc(x, func(q api.Put) bool { return p.At == q.At })
		})
		a, b := s.Copy(), s.Copy()
		_, err := a.Set(x...)
		_, err2 := a.Set(y...)
		_, err3 := b.Set(y...)
		_, err4 := b.Set(x...)
		if err == api.OK && err2 == api.OK && err3 == api.OK && err4 == api.OK {
			both++
			sameTold(t, "Q2: two batches the other way round", toldCells(b.Cells()), toldCells(a.Cells()))
		}
		s = a
	}
	if both < 150 {
		t.Errorf("too few of a sort: %d", both)
	}
}

// TestPutAgain: a batch that puts what is there changes nothing that is shown, and has just its formulas worked out.
func TestPutAgain(t *testing.T) {
	r := rand.New(rand.NewSource(208))
	m := maker{r, xy(2, 2), 7, 7}
	s, count := live.New(), 0
	for range 200 {
		s.Set(m.batch()...)
		var batch []api.Put
		var formulas []api.Addr
		for _, c := range s.Cells() {
			if r.Intn(3) == 0 {
				batch = append(batch, api.Put{At: c.At, C: c.C})
				if c.C.Kind == api.Formula {
					formulas = append(formulas, c.At)
				}
			}
		}
		count += len(formulas)
		was := toldCells(s.Cells())
		r.Shuffle(len(batch), func(i, j int) { batch[i], batch[j] = batch[j], batch[i] })
		taken(t, s, batch)
		sameTold(t, "P20.5: put again", toldCells(s.Cells()), was)
		sameCells(t, "P20.5: Changed, put again", s.Changed(), nil)
		sameCells(t, "P20.3: Worked, put again", s.Worked(), formulas)
	}
	if count < 300 {
		t.Errorf("too few of a sort: %d", count)
	}
}

// TestSameContents: two sheets with the same contents show the same, however they came there.
func TestSameContents(t *testing.T) {
	r := rand.New(rand.NewSource(209))
	m := maker{r, xy(1, 1), 7, 7}
	for i := range 60 {
		s := live.New()
		for range 25 {
			s.Set(m.batch()...)
		}
		from, err := live.From(s.Grid())
		if err != api.OK {
			t.Fatalf("P20.4: From: error %d", err)
		}
		// By one batch, and cell by cell, in an order by chance: a part of what has no circle has none.
		byBatch, byCells := live.New(), live.New()
		var batch []api.Put
		for _, c := range s.Cells() {
			batch = append(batch, api.Put{At: c.At, C: c.C})
		}
		taken(t, byBatch, batch)
		r.Shuffle(len(batch), func(i, j int) { batch[i], batch[j] = batch[j], batch[i] })
		for _, p := range batch {
			taken(t, byCells, []api.Put{p})
		}
		for _, o := range []*live.Sheet{from, byBatch, byCells, s.Copy()} {
			sameTold(t, fmt.Sprintf("P20.5: sheet %d come there otherwise", i), toldCells(o.Cells()), toldCells(s.Cells()))
			if !whole.Same(o.Cells(), s.Cells()) {
				t.Error("P20.5: whole.Same")
			}
		}
	}
}

// TestEachOnce: no cell stands twice in Worked or Changed, and each that was worked out has a formula.
func TestEachOnce(t *testing.T) {
	r := rand.New(rand.NewSource(210))
	m := maker{r, xy(4, 4), 6, 6}
	s := live.New()
	for range 600 {
		s.Set(m.batch()...)
		for _, l := range [][]api.Addr{s.Worked(), s.Changed()} {
			if !slices.IsSortedFunc(l, standing) || len(slices.Compact(slices.Clone(l))) != len(l) {
				t.Errorf("P20.3: %s is not in order, or has a cell twice", names(l))
			}
		}
		for _, at := range s.Worked() {
			if s.Content(at).Kind != api.Formula {
				t.Errorf("P20.3: %s was worked out, and has no formula", name(at))
			}
		}
	}
}

// TestSums: what is added up little by little is what is added up at once, and rounded once (Q7, Q8).
func TestSums(t *testing.T) {
	s := sheetOf(t, "B1", "=SUM(A1:A99)", "B2", "=A1+A2+A3", "B3", "=AVERAGE(A1:A99)", "B4", "=SINGLE(0.1)", "B5", "=0.1+0.2")
	set(t, s, "A1", 1e16, "A2", 1.0, "A3", -1e16)
	shows(t, s, "B1", 1.0)
	shows(t, s, "B2", 0.0)
	shows(t, s, "B4", 0.10000000149011612)
	shows(t, s, "B5", 0.30000000000000004)
	for row := 4; row < 99; row++ {
		set(t, s, xy(1, row), 0.1)
	}
	sum := s.Value(cell("B1"))
	// One more and the same one less leaves what it was; other cells' order too.
	set(t, s, "A99", 1e300)
	set(t, s, "A99", nil)
	if toldValue(s.Value(cell("B1"))) != toldValue(sum) {
		t.Error("Q7: a number more, and it less, leaves something else")
	}
	set(t, s, "A1", -1e16, "A3", 0.1, "A50", 1e16)
	if toldValue(s.Value(cell("B1"))) != toldValue(sum) {
		t.Error("Q7: the sum hangs on the cells' order")
	}
	isWhole(t, "sums", s)
}
