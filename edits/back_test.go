package edits_test

import (
	"fmt"
	"testing"

	"quadrille/api"
	"quadrille/edits"
)

// P21.2: Undo, Redo, Backs, Agains.

// TestMaxBack: MaxBack steps, one more, many more; the eldest go.
func TestMaxBack(t *testing.T) {
	for _, steps := range []int{1, 2, api.MaxBack - 1, api.MaxBack, api.MaxBack + 1, api.MaxBack + 2, 2 * api.MaxBack, 3*api.MaxBack + 5} {
		about := fmt.Sprintf("%d steps", steps)
		b, m := edits.New(), newModel()
		for i := range steps {
			do(t, b, "A1", float64(i+1), "B1", "=A1*2")
			m.do(puts("A1", float64(i+1), "B1", "=A1*2"))
			counts(t, "P21.1: "+about, b, min(i+1, 64), 0)
			shows(t, b, "B1", float64(2*i+2))
		}
		kept := min(steps, 64)
		for i := range kept {
			counts(t, "P21.2: "+about, b, kept-i, i)
			shows(t, b, "B1", float64(2*(steps-i)))
			is(t, "P21.2: "+about+": Undo", b.Undo(), api.OK)
		}
		// Behind the eldest step that is kept stands what the ones that went led to.
		counts(t, "P21.2: "+about+", all taken back", b, 0, kept)
		if gone := steps - kept; gone > 0 {
			shows(t, b, "B1", float64(2*gone))
		} else {
			shows(t, b, "B1", nil)
		}
		sameTold(t, "P21.3: "+about+": Last behind nothing", toldPuts(b.Last()), "")
		was := toldNow(b)
		for range 3 {
			is(t, "P21.2: "+about+": one Undo more", b.Undo(), api.ErrBack)
		}
		sameTold(t, "P21.4: "+about+": behind one Undo more", toldNow(b), was)
		for i := range kept {
			is(t, "P21.2: "+about+": Redo", b.Redo(), api.OK)
			counts(t, "P21.2: "+about, b, i+1, kept-i-1)
			shows(t, b, "B1", float64(2*(steps-kept+i+1)))
		}
		was = toldNow(b)
		for range 3 {
			is(t, "P21.2: "+about+": one Redo more", b.Redo(), api.ErrBack)
		}
		sameTold(t, "P21.4: "+about+": behind one Redo more", toldNow(b), was)
		m.holdsAll(t, about, b)
	}
}

// TestFullRowByOtherSteps: the eldest go by Become too, and not by what is no step or is refused.
func TestFullRowByOtherSteps(t *testing.T) {
	b, m := edits.New(), newModel()
	for i := range api.MaxBack {
		do(t, b, "A1", float64(i+1))
		m.do(puts("A1", float64(i+1)))
	}
	noStep(t, "in a full row", b, puts("A1", 64.0, "B1", nil))
	refused(t, "in a full row", b, puts("B1", 2.0, "A1", "=A1"), 1, api.ErrCycle)
	m.holdsAll(t, "a full row", b)
	is(t, "P21.1: Become", b.Become(gridOf("C1", "x")), m.become(gridOf("C1", "x")))
	counts(t, "P21.1: Become in a full row", b, 64, 0)
	m.holdsAll(t, "a full row, behind Become", b)
	// In the middle of a full row a step lets what is ahead go, and nothing else.
	for range 10 {
		is(t, "P21.2: Undo", b.Undo(), m.undo())
	}
	do(t, b, "D1", true)
	m.do(puts("D1", true))
	counts(t, "P21.1: a step in the middle of a full row", b, 55, 0)
	m.holdsAll(t, "a step in the middle of a full row", b)
}

// calls are what can be done to a book and its model, each with what both answered.
func calls() []func(b *edits.Book, m *model) (got, want string) {
	told := func(n int, err api.Errno) string { return fmt.Sprintf("%d, error %d", n, err) }
	batch := func(list ...any) func(b *edits.Book, m *model) (string, string) {
		return func(b *edits.Book, m *model) (string, string) {
			return told(b.Do(puts(list...)...)), told(m.do(puts(list...)))
		}
	}
	return []func(b *edits.Book, m *model) (string, string){
		func(b *edits.Book, m *model) (string, string) { return told(0, b.Undo()), told(0, m.undo()) },
		func(b *edits.Book, m *model) (string, string) { return told(0, b.Redo()), told(0, m.redo()) },
		batch("A1", 1.0, "B1", "=A1+C1"),
		batch("B1", 2.0, "A1", "=B1", "C1", "=A1"),
		batch("D1", 1.0, "C1", "=B1", "B1", "=C1"), // refused
		func(b *edits.Book, m *model) (string, string) {
			g := gridOf("A1", minus, "C1", "=A1", "Z9", nans()[2])
			return told(0, b.Become(g)), told(0, m.become(g))
		},
	}
}

// TestEveryOrder: Undos and Redos, steps, what is no step and what is refused, in every order.
func TestEveryOrder(t *testing.T) {
	list := calls()
	count := 1
	for range 5 {
		count *= len(list)
	}
	for i := range count {
		b, m := edits.New(), newModel()
		about := "calls"
		for rest, k := i, 0; k < 5; rest, k = rest/len(list), k+1 {
			about += fmt.Sprint(" ", rest%len(list))
			if got, want := list[rest%len(list)](b, m); got != want {
				t.Fatalf("P21.2: %s: %s, not %s", about, got, want)
			}
			counts(t, "P21.2: "+about, b, len(m.behind), len(m.ahead))
		}
		if i%5 == 0 {
			m.holdsAll(t, about, b)
		}
		if t.Failed() {
			return
		}
	}
}

// TestStepAmid: a step amid Undos and Redos leaves nothing ahead; a refused one and what is no step leave all.
func TestStepAmid(t *testing.T) {
	for back := range 9 {
		about := fmt.Sprintf("behind %d Undos", back)
		b, m := longRow(t, 4)
		for b.Redo() == api.OK {
			m.redo()
		}
		for range back {
			is(t, "P21.2: "+about, b.Undo(), m.undo())
		}
		refused(t, about, b, puts("B9", 1.0, "B8", "=B8"), 1, api.ErrCycle)
		noStep(t, about, b, puts("Z9", nil))
		is(t, "P21.1: "+about+": Become(nil)", b.Become(nil), api.ErrArg)
		is(t, "P21.1: "+about+": Become of a circle", b.Become(gridBy(ring(2))), api.ErrCycle)
		m.holdsAll(t, about, b)
		for i := range 3 {
			batch := puts("B9", float64(i), "B8", "=B9")
			if i == 1 {
				is(t, "P21.1: "+about+": Become", b.Become(gridBy(batch)), m.become(gridBy(batch)))
			} else {
				taken(t, b, batch)
				m.do(batch)
			}
			counts(t, "P21.1: "+about, b, 9-back+i, 0)
			is(t, "P21.2: "+about+": Redo of nothing", b.Redo(), api.ErrBack)
			m.holdsAll(t, about, b)
		}
	}
}

// TestStepBackByHand: a step to the contents that are the last ones behind, or the first ones ahead, is a step as any other.
func TestStepBackByHand(t *testing.T) {
	b, m := edits.New(), newModel()
	for _, x := range []any{1.0, 2.0, 1.0, 2.0, nil, 2.0} {
		do(t, b, "A1", x)
		m.do(puts("A1", x))
	}
	counts(t, "P21.1: there and back by hand", b, 6, 0)
	is(t, "P21.2: Undo", b.Undo(), m.undo())
	do(t, b, "A1", 2.0)
	m.do(puts("A1", 2.0))
	counts(t, "P21.1: a step to what was ahead", b, 6, 0)
	m.holdsAll(t, "there and back by hand", b)
}
