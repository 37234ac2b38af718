package live_test

import (
	"fmt"
	"math/rand"
	"slices"
	"testing"

	"quadrille/api"
	"quadrille/live"
)

// P20.1, Q3: batches that would make a circle.

func TestCircles(t *testing.T) {
	for _, c := range []struct {
		about  string
		there  []any
		batch  []any
		number int
	}{
		{"one cell", nil, []any{"A1", "=A1"}, 0},
		{"one cell, an area", nil, []any{"B2", "=SUM(A1:C3)"}, 0},
		{"one cell, in a branch that is not taken", nil, []any{"B2", "=IF(FALSE,B2,1)"}, 0},
		{"one cell, fixed", nil, []any{"B2", "=1+$B$2"}, 0},
		{"one cell behind others", nil, []any{"A1", 1.0, "A2", "=A1", "A3", "=A3"}, 2},
		{"two", nil, []any{"A1", "=B1", "B1", "=A1"}, 0},
		{"two behind a plain one", nil, []any{"C1", 1.0, "B1", "=A1", "A1", "=B1"}, 1},
		{"two with others between", nil, []any{"C1", nil, "B1", "=A1", "D1", "=B1", "A1", "=B1"}, 1},
		{"three", nil, []any{"C3", "=B2", "B2", "=A1", "A1", "=C3"}, 0},
		{"through a cell that was there", []any{"B1", "=A1"}, []any{"A1", "=B1"}, 0},
		{"through cells that were there", []any{"B1", "=A1", "C1", "=B1", "D1", "=C1*2"}, []any{"E1", 5.0, "A1", "=D1+1"}, 1},
		{"through an area of cells that were there", []any{"B1", "=SUM(A1:A9)", "C1", "=B1"}, []any{"A5", "=C1"}, 0},
		{"through an area that is put", []any{"B1", "=A1", "C1", "=B1"}, []any{"D1", "=C1", "A1", "=COUNT(A2:Z99,B1:C2)"}, 1},
		{"through an area, the cell being in it", nil, []any{"A1", 1.0, "A2", 2.0, "A3", "=SUM(A1:A3)"}, 2},
		{"through two that were there", []any{"B1", "=A1", "D1", "=C1"}, []any{"C1", "=B1", "A1", "=D1"}, 0},
		{"one that hangs on a circle and is in none", nil, []any{"D1", "=A1", "E1", "=D1", "A1", "=B1", "B1", "=A1"}, 2},
		{"one on which a circle hangs", nil, []any{"D1", "=7", "A1", "=B1+D1", "B1", "=A1"}, 1},
		{"one that hangs on a cell that uses itself", nil, []any{"A1", "=B1", "B1", "=B1"}, 1},
		{"one between two circles", nil, []any{"C1", "=A1", "D1", "=C1+D2", "D2", "=D1", "A1", "=A2", "A2", "=A1"}, 1},
		{"two circles at once", nil, []any{"B2", "=C3", "A1", "=D4", "D4", "=A1", "C3", "=B2"}, 0},
		{"two circles at once, another one first", nil, []any{"Z9", 1.0, "A1", "=D4", "B2", "=C3", "C3", "=B2", "D4", "=A1"}, 1},
		{"of two circles the one whose cells stand behind", nil, []any{"Z9", "=Z8", "Z8", "=Z9", "A1", "=A1"}, 0},
		{"two circles through one cell", nil, []any{"C1", "=A1", "B1", "=A1", "A1", "=B1+C1"}, 0},
		{"a cell that was there, and others not of it", []any{"A1", "=B1", "F1", "=G1"}, []any{"G1", "=H1", "H1", "=I1", "B1", "=A1"}, 2},
		{"a plain one becomes one of it", []any{"A1", 1.0, "B1", "=A1"}, []any{"A1", "=B1+1"}, 0},
		{"a formula becomes one of it", []any{"A1", "=C1", "B1", "=A1"}, []any{"A1", "=B1+1"}, 0},
		{"one circle is broken, another one made", []any{"A1", 1.0, "B1", "=A1", "C1", "=B1"}, []any{"B1", 2.0, "A1", "=C1", "D1", "=E1", "E1", "=D1"}, 2},
	} {
		s := sheetOf(t, c.there...)
		refused(t, c.about, s, puts(c.batch...), c.number, api.ErrCycle)
		// Of an empty batch behind it nothing comes: the sheet is as good as ever.
		isWhole(t, c.about, s)
	}
}

// TestNoCircles: batches that look like circles and make none.
func TestNoCircles(t *testing.T) {
	for _, c := range []struct {
		about        string
		there, batch []any
	}{
		{"a diamond", nil, []any{"A1", "=B1+C1", "B1", "=D1", "C1", "=D1", "D1", 1.0}},
		{"another put breaks it", []any{"B1", "=A1"}, []any{"A1", "=B1", "B1", 1.0}},
		{"another put, ahead of it, breaks it", []any{"B1", "=A1"}, []any{"B1", nil, "A1", "=B1"}},
		{"another put makes another formula of it", []any{"B1", "=A1", "C1", "=B1"}, []any{"A1", "=C1", "C1", "=D1"}},
		{"two change places", []any{"B1", "=A1", "A1", 1.0}, []any{"A1", "=B1", "B1", 1.0}},
		{"a chain the other way round", []any{"A1", "=B1", "B1", "=C1", "C1", "=D1", "D1", 7.0}, []any{"D1", "=C1", "C1", "=B1", "B1", "=A1", "A1", 8.0}},
		{"areas beside one another", nil, []any{"A1", "=SUM(B1:B9)", "B1", "=SUM(C1:C9)", "C9", "=SUM(D1:D9,A2:A9)"}},
		{"an area that ends ahead of it", nil, []any{"A9", "=SUM(A1:A8)", "A8", "=SUM(A1:A7)", "B8", "=SUM(A1:A9)"}},
		{"through a cell that is empty", []any{"A1", "=B1"}, []any{"C1", "=A1", "D1", "=C1+B2"}},
		{"through a plain cell", []any{"A1", "=B1"}, []any{"B1", 1.0}},
	} {
		s := sheetOf(t, c.there...)
		for range 2 {
			taken(t, s, puts(c.batch...))
			isWhole(t, c.about, s)
		}
	}
}

// TestCircleThenBroken: what was refused is taken once the way back is gone.
func TestCircleThenBroken(t *testing.T) {
	s := sheetOf(t, "B1", "=A1", "C1", "=B1")
	batch := puts("A1", "=C1")
	for _, way := range []any{1.0, nil, "=D1"} {
		set(t, s, "B1", "=A1", "A1", nil)
		refused(t, "A1 := =C1", s, batch, 0, api.ErrCycle)
		set(t, s, "B1", way)
		taken(t, s, batch)
		refused(t, "B1 := =A1", s, puts("B1", "=A1"), 0, api.ErrCycle)
		isWhole(t, "behind it", s)
	}
}

// TestRing: circles of many sizes, by one batch and by a last put that closes them, begun anywhere.
func TestRing(t *testing.T) {
	for _, size := range []int{1, 2, 3, 17, api.MaxBatch - 1, api.MaxBatch} {
		var list []any
		for i := range size {
			list = append(list, xy(5, 1+i), "="+name(xy(5, 1+(i+1)%size)))
		}
		ring := puts(list...)
		for _, first := range []int{0, 1, size / 2, size - 1} {
			k := first % size
			refused(t, fmt.Sprintf("a ring of %d from %d on", size, k), live.New(), slices.Concat(ring[k:], ring[:k]), 0, api.ErrCycle)
		}
		s := live.New()
		taken(t, s, ring[:size-1])
		refused(t, fmt.Sprintf("the last one of a ring of %d", size), s, ring[size-1:], 0, api.ErrCycle)
		more := puts("A1", 1.0, "A2", "=E1")
		refused(t, fmt.Sprintf("the last one of a ring of %d, behind others", size), s, append(more, ring[size-1]), 2, api.ErrCycle)
	}
}

// TestLongRing: a chain of as many cells as may be, closed and not.
func TestLongRing(t *testing.T) {
	s := chain(t)
	last := "=" + name(place(api.MaxCells-1))
	refused(t, "the chain closed", s, puts("A1", last), 0, api.ErrCycle)
	refused(t, "the chain closed behind others", s, puts("A4000", nil, "C9", "=C8", "A1", last), 1, api.ErrCycle)
	set(t, s, "E9", 2.0, "A1", last)
	if got := s.Value(cell("A1")); got.X != 2+float64(api.MaxCells-1-slices.Index(chainCells(), cell("E9"))) {
		t.Errorf("P20.2: A1 shows %v", got)
	}
	isWhole(t, "the chain, begun elsewhere", s)
}

// TestFirstPutOfCircle: batches in every order; the number is that of the first put in a circle.
func TestFirstPutOfCircle(t *testing.T) {
	batch := puts("A1", "=B1", "B1", "=A1", "C1", "=A1", "D1", "=7", "E1", 1.0)
	in := func(p api.Put) bool { return p.At == cell("A1") || p.At == cell("B1") }
	for order := range orders(batch) {
		refused(t, "an order", sheetOf(t, "Z9", "=A1"), order, slices.IndexFunc(order, in), api.ErrCycle)
	}
}

// orders are a batch in every order.
func orders(batch []api.Put) func(yield func([]api.Put) bool) {
	return func(yield func([]api.Put) bool) {
		list := slices.Clone(batch)
		var swap func(k int) bool
		swap = func(k int) bool {
			if k == len(list) {
				return yield(list)
			}
			for i := k; i < len(list); i++ {
				list[k], list[i] = list[i], list[k]
				if !swap(k + 1) {
					return false
				}
				list[k], list[i] = list[i], list[k]
			}
			return true
		}
		swap(0)
	}
}

// TestManyInCircles: many puts by chance, all formulas of a few cells.
func TestManyInCircles(t *testing.T) {
	r := rand.New(rand.NewSource(201))
	counts := map[int]int{}
	for range 400 {
		var list []any
		for _, i := range r.Perm(64)[:30] {
			list = append(list, xy(1+i%8, 1+i/8), "="+name(xy(1+r.Intn(8), 1+r.Intn(8))))
		}
		w, s := model{}, live.New()
		n, _, _, err := w.set(puts(list...))
		if err == api.OK {
			counts[-1]++
			taken(t, s, puts(list...))
			continue
		}
		counts[n]++
		refused(t, "by chance", s, puts(list...), n, err)
	}
	if len(counts) < 6 || counts[-1] < 20 {
		t.Errorf("too few of a sort: %v", counts)
	}
}
