package edits_test

import (
	"fmt"
	"math/rand"
	"testing"

	"quadrille/api"
	"quadrille/edits"
	"quadrille/live"
)

// P21.4: what follows; Q1 to Q3, Q5.

// TestUndoOfEachStep: behind each step Undo leads to what was ahead of it, and Redo to what was behind it, bit by bit.
func TestUndoOfEachStep(t *testing.T) {
	r := rand.New(rand.NewSource(212))
	m := maker{r, xy(2, 2), 4, 4}
	b, steps := edits.New(), 0
	for i := range 600 {
		about := fmt.Sprint("call ", i)
		ahead := toldSheet(b.Sheet())
		var err api.Errno
		if i%5 == 0 {
			err = b.Become(m.grid(b.Sheet().Grid()))
		} else {
			_, err = b.Do(m.batch()...)
		}
		behind := toldSheet(b.Sheet())
		if err != api.OK {
			sameTold(t, "P21.4: "+about+": refused", behind, ahead)
		}
		if behind == ahead {
			continue
		}
		steps++
		is(t, "P21.4: "+about+": Undo", b.Undo(), api.OK)
		sameTold(t, "P21.4: "+about+": Undo", toldSheet(b.Sheet()), ahead)
		is(t, "P21.4: "+about+": Redo", b.Redo(), api.OK)
		sameTold(t, "P21.4: "+about+": Redo", toldSheet(b.Sheet()), behind)
	}
	if steps < 200 {
		t.Errorf("too few steps: %d", steps)
	}
}

// TestThereAndBack: of k Undos and k Redos nothing is left.
func TestThereAndBack(t *testing.T) {
	b, _ := longRow(t, 20)
	for b.Redo() == api.OK {
	}
	was := toldBook(b)
	for k := range b.Backs() + 1 {
		for range k {
			is(t, "P21.4: Undo", b.Undo(), api.OK)
		}
		counts(t, "P21.4: there", b, 40-k, k)
		for range k {
			is(t, "P21.4: Redo", b.Redo(), api.OK)
		}
		sameTold(t, fmt.Sprintf("P21.4: %d Undos and Redos", k), toldNow(b), was[:len(toldNow(b))])
	}
	sameTold(t, "P21.4: there and back", toldBook(b), was)
}

// TestContentsAlone: books that came to the same contents by other ways show the same.
func TestContentsAlone(t *testing.T) {
	r := rand.New(rand.NewSource(213))
	for range 60 {
		m := maker{r, xy(1, 1), 4, 4}
		one := edits.New()
		for range 30 {
			m.call(one, newModel(), 4)
		}
		g := one.Sheet().Grid()
		two, three := edits.New(), edits.New()
		is(t, "Become", two.Become(g), api.OK)
		// The plain cells first, then one formula behind the other, as far as it goes.
		for at, c := range g.All() {
			if c.Kind == api.Plain {
				do(t, three, at, c)
			}
		}
		for at, c := range g.All() {
			if c.Kind == api.Formula {
				do(t, three, at, c)
			}
		}
		want := toldSheet(one.Sheet())
		sameTold(t, "Q1: by Become", toldSheet(two.Sheet()), want)
		sameTold(t, "Q1: cell by cell", toldSheet(three.Sheet()), want)
		s, err := live.From(g)
		is(t, "Q3", err, api.OK)
		sameTold(t, "Q1: at once", toldSheet(s), want)
	}
}

// TestOrderOfPuts: a batch in another order comes to the same, its way back too.
func TestOrderOfPuts(t *testing.T) {
	r := rand.New(rand.NewSource(214))
	m := maker{r, xy(1, 1), 3, 4}
	b, steps := edits.New(), 0
	for range 300 {
		batch := m.batch()
		g, backs := b.Sheet().Grid(), b.Backs()
		if _, err := b.Do(batch...); err != api.OK || b.Backs() == backs {
			continue
		}
		steps++
		other := edits.New()
		is(t, "Become", other.Become(g), api.OK)
		r.Shuffle(len(batch), func(i, k int) { batch[i], batch[k] = batch[k], batch[i] })
		taken(t, other, batch)
		sameTold(t, "Q2: in another order", toldSheet(other.Sheet()), toldSheet(b.Sheet()))
		sameTold(t, "Q2: in another order: Last", toldPuts(other.Last()), toldPuts(b.Last()))
	}
	if steps < 30 {
		t.Errorf("too few steps: %d", steps)
	}
}

// TestCircles: a batch is refused for a circle just if there would be one behind it, whatever was there ahead of it.
func TestCircles(t *testing.T) {
	b := edits.New()
	do(t, b, "A1", "=A2", "A2", "=A3", "A3", 1.0)
	refused(t, "a circle with what is there", b, puts("A4", 1.0, "A3", "=A1"), 1, api.ErrCycle)
	do(t, b, "A1", 5.0, "A3", "=A1") // the circle is cut in the same batch
	shows(t, b, "A2", 5.0)
	is(t, "Undo", b.Undo(), api.OK)
	refused(t, "a circle with what is there again", b, puts("A3", "=A1"), 0, api.ErrCycle)
	is(t, "Redo", b.Redo(), api.OK)
	do(t, b, "A4", "=A3")
	refused(t, "a circle with what is there now", b, puts("A1", "=A2"), 0, api.ErrCycle)
	is(t, "Undo", b.Undo(), api.OK)
	is(t, "Undo", b.Undo(), api.OK)
	do(t, b, "A4", "=A3")
	shows(t, b, "A1", 1.0)
}
