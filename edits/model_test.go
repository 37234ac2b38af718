package edits_test

import (
	"fmt"
	"math/rand"
	"slices"
	"strings"
	"testing"

	"quadrille/api"
	"quadrille/edits"
	"quadrille/grid"
)

// maker makes batches and grids by chance, within some columns and rows from one cell on.
type maker struct {
	*rand.Rand
	from       api.Addr
	cols, rows int
}

func (m maker) cell() api.Addr { return xy(m.from.Col+m.Intn(m.cols), m.from.Row+m.Intn(m.rows)) }

// text is a formula: r stands for a cell, s for an area, n for a small number.
func (m maker) text() string {
	forms := []string{"r+1", "r+r", "r*r", "r/r", "-r", "r", "r&r", "r=r", "SUM(s)", "SUM(s,r)", "COUNTA(s)", "MAX(s)", "AVERAGE(s)", "IF(r,r,r)", "IFERROR(r,n)", "r+#REF!", "n", `"x"`, "TRUE", "1/0", "0*r", "r>n"}
	var b strings.Builder
	for _, c := range forms[m.Intn(len(forms))] {
		switch c {
		case 'r':
			b.WriteString([]string{"", "$"}[m.Intn(2)] + name(m.cell()))
		case 's':
			b.WriteString(name(m.cell()) + ":" + name(m.cell()))
		case 'n':
			b.WriteString(fmt.Sprint(m.Intn(3)))
		default:
			b.WriteRune(c)
		}
	}
	return b.String()
}

func (m maker) content() api.Content {
	switch m.Intn(6) {
	case 0:
		return api.Content{}
	case 1, 2, 3:
		return fx(m.text())
	}
	return content([]any{1.0, 2.0, 0.0, minus, inf, nans()[m.Intn(6)], 5e-324, "a", "", "12", true, false, api.FaultDiv, api.FaultRef}[m.Intn(14)])
}

func (m maker) batch() []api.Put {
	var l []api.Put
	for range m.Intn(1 + m.Intn(7)) {
		p := api.Put{At: m.cell(), C: m.content()}
		if m.Intn(4) > 0 && slices.ContainsFunc(l, func(q api.Put) bool { return p.At == q.At }) {
			continue
		}
		switch m.Intn(60) {
		case 0:
			p.At = noCells()[m.Intn(len(noCells()))]
		case 1:
			p.C = noContents()[m.Intn(len(noContents()))]
		}
		l = append(l, p)
	}
	return l
}

// grid is one that has to do with the present contents, or with none, or nil.
func (m maker) grid(now *grid.Grid) *grid.Grid {
	g := grid.New()
	switch m.Intn(20) {
	case 0, 1:
		return nil
	case 2, 3, 4, 5, 6, 7, 8, 9, 10, 11, 12:
		g = now.Clone()
	case 13:
		for i := range 250 + m.Intn(20) {
			g.Put(place(i+5000), content(float64(m.Intn(3))))
		}
	}
	for range m.Intn(5) {
		g.Put(m.cell(), m.content())
	}
	return g
}

// TestByChance: long rows of calls, the book held against grids that the test keeps, behind each of them.
func TestByChance(t *testing.T) {
	r := rand.New(rand.NewSource(211))
	errs, most, last := map[string]int{}, 0, 0
	for i := range 25 {
		m := maker{r, xy(1+r.Intn(9), 1+r.Intn(9)), 1 + r.Intn(4), 1 + r.Intn(5)}
		if i%10 == 0 {
			m.from = xy(257-m.cols, 4097-m.rows)
		}
		backward := r.Intn(5) // how much it goes back and forth
		b, w := edits.New(), newModel()
		for k := range 200 {
			about := fmt.Sprintf("row %d, call %d", i, k)
			what, got, want := m.call(b, w, backward)
			if got != want {
				t.Fatalf("P21: %s: %s answers %s, not %s", about, what, got, want)
			}
			errs[what+" "+got]++
			w.holds(t, about, b)
			if most, last = max(most, b.Backs()), max(last, len(b.Last())); k%50 == 0 {
				w.holdsAll(t, about, b)
			}
			if t.Failed() {
				return
			}
		}
		w.holdsAll(t, fmt.Sprintf("row %d", i), b)
	}
	for _, what := range []string{"Do 0, error 0", "Do 0, error 1", "Do 0, error 20", "Do 1, error 42", "Do 0, error 40", "Do 1, error 40", "Become 0", "Become 1", "Become 40", "Undo 0", "Undo 43", "Redo 0", "Redo 43"} {
		if errs[what] < 3 {
			t.Errorf("too few of %s: %v", what, errs)
		}
	}
	if most != api.MaxBack || last <= api.MaxBatch {
		t.Errorf("at most %d behind, %d puts back", most, last)
	}
}

// call does one of the calls to a book and to its model.
func (m maker) call(b *edits.Book, w *model, backward int) (what, got, want string) {
	switch m.Intn(6 + backward) {
	case 0:
		g := m.grid(w.now)
		return "Become", fmt.Sprint(int(b.Become(g))), fmt.Sprint(int(w.become(g)))
	case 1, 2, 3, 4:
		batch := m.batch()
		n, err := b.Do(batch...)
		number, due := w.do(batch)
		return "Do", fmt.Sprintf("%d, error %d", n, err), fmt.Sprintf("%d, error %d", number, due)
	case 5:
		return "Redo", fmt.Sprint(int(b.Redo())), fmt.Sprint(int(w.redo()))
	}
	if m.Intn(3) == 0 {
		return "Redo", fmt.Sprint(int(b.Redo())), fmt.Sprint(int(w.redo()))
	}
	return "Undo", fmt.Sprint(int(b.Undo())), fmt.Sprint(int(w.undo()))
}
