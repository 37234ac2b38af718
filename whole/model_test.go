package whole_test

import (
	"fmt"
	"iter"
	"maps"
	"math"
	"math/rand"
	"slices"
	"strings"
	"testing"

	"quadrille/api"
	"quadrille/eval"
	"quadrille/grid"
	"quadrille/whole"
)

// model is a sheet's contents, worked out as chapter 19 says it.
type model map[api.Addr]api.Content

func standing(a, b api.Addr) int { return (a.Row-b.Row)*1000 + a.Col - b.Col }

func modelOf(g *grid.Grid) model { return maps.Collect(g.All()) }

// all are the cells, in order.
func (m model) all() []api.Addr { return slices.SortedFunc(maps.Keys(m), standing) }

// formulas are those that have one, in order.
func (m model) formulas() []api.Addr {
	return slices.DeleteFunc(m.all(), func(at api.Addr) bool { return m[at].Kind != api.Formula })
}

// names tells whether a tree names a cell.
func namesCell(n api.Node, at api.Addr) bool {
	switch n.Kind {
	case api.NodeRef:
		return n.Ref.Addr == at
	case api.NodeArea:
		from, to := n.Ref.Addr, n.To.Addr
		return from.Col <= at.Col && at.Col <= to.Col && from.Row <= at.Row && at.Row <= to.Row
	}
	return slices.ContainsFunc(n.Args, func(a api.Node) bool { return namesCell(a, at) })
}

func (m model) uses(user, at api.Addr) bool {
	return m[user].Kind == api.Formula && namesCell(m[user].F, at)
}

// above are the formulas that hang on a cell, in order: from users to users of users till there is nothing new.
func (m model) above(at api.Addr) []api.Addr {
	formulas := m.formulas()
	found := map[api.Addr]bool{}
	for line := []api.Addr{at}; len(line) > 0; line = line[1:] {
		for _, user := range formulas {
			if !found[user] && m.uses(user, line[0]) {
				found[user] = true
				line = append(line, user)
			}
		}
	}
	return slices.SortedFunc(maps.Keys(found), standing)
}

func (m model) circles() []api.Addr {
	return slices.DeleteFunc(m.formulas(), func(at api.Addr) bool { return !slices.Contains(m.above(at), at) })
}

// lazy is a source that works each formula out when it is asked for it.
type lazy struct {
	model
	known map[api.Addr]api.Value
}

func (l lazy) Cell(at api.Addr) api.Value {
	c := l.model[at]
	if c.Kind != api.Formula {
		return c.V
	}
	if v, is := l.known[at]; is {
		return v
	}
	v, err := eval.Eval(c.F, l)
	if err != api.OK {
		panic(err)
	}
	l.known[at] = v
	return v
}

func (l lazy) Each(a api.Area) iter.Seq2[api.Addr, api.Value] {
	return func(yield func(api.Addr, api.Value) bool) {
		for _, at := range l.all() {
			if a.From.Col <= at.Col && at.Col <= a.To.Col && a.From.Row <= at.Row && at.Row <= a.To.Row && !yield(at, l.Cell(at)) {
				return
			}
		}
	}
}

// cells are what Calc has to tell of a sheet without circles.
func (m model) cells() []api.Cell {
	source := lazy{m, map[api.Addr]api.Value{}}
	var list []api.Cell
	for _, at := range m.all() {
		list = append(list, api.Cell{At: at, C: m[at], V: source.Cell(at)})
	}
	return list
}

// order is what By has to tell: the plain ones, then at each step one of those that use none that is left.
func (m model) order(picks []int) []api.Addr {
	left := m.formulas()
	list := slices.DeleteFunc(m.all(), func(at api.Addr) bool { return m[at].Kind == api.Formula })
	for k := 0; len(left) > 0; k++ {
		may := slices.DeleteFunc(slices.Clone(left), func(user api.Addr) bool {
			return slices.ContainsFunc(left, func(at api.Addr) bool { return m.uses(user, at) })
		})
		i := 0
		if k < len(picks) {
			i = (picks[k]%len(may) + len(may)) % len(may)
		}
		list = append(list, may[i])
		left = slices.DeleteFunc(left, func(at api.Addr) bool { return at == may[i] })
	}
	return list
}

func (m model) wave(user api.Addr) int {
	greatest := 0
	for _, at := range m.formulas() {
		if m.uses(user, at) {
			greatest = max(greatest, m.wave(at))
		}
	}
	return greatest + 1
}

func (m model) waves() [][]api.Addr {
	var list [][]api.Addr
	for _, at := range m.formulas() {
		n := m.wave(at)
		for len(list) < n {
			list = append(list, nil)
		}
		list[n-1] = append(list[n-1], at)
	}
	return list
}

// maker makes sheets by chance, within some columns and rows from one cell on.
type maker struct {
	*rand.Rand
	from       api.Addr
	cols, rows int
	upward     bool // formulas use rows ahead of theirs alone: then no circles come
}

func (m maker) cell() api.Addr { return xy(m.from.Col+m.Intn(m.cols), m.from.Row+m.Intn(m.rows)) }

// ref is the text of a cell that a formula of some row may use.
func (m maker) ref(row int) string {
	at := m.cell()
	if m.upward && at.Row >= row {
		at.Row = m.from.Row - 1 - m.Intn(2) // an empty one, above all
	}
	return name(at)
}

// area is the text of an area that a formula of some row may use.
func (m maker) area(row int) string {
	a, b := m.cell(), m.cell()
	if m.Intn(2) == 0 {
		b.Col = a.Col
	}
	if m.upward {
		a.Row, b.Row = min(a.Row, row-1), min(b.Row, row-1)
	}
	return name(a) + ":" + name(b)
}

// text is a formula for a cell of some row: r stands for a cell, s for an area.
func (m maker) text(row int) string {
	forms := []string{"r+1", "r+r", "r*r", "r-r", "r/r", "r^2", "-r", "r%", "r", "r&r", "r=r", "r<r", "SUM(s)", "SUM(s,s)", "SUM(s,r)", "COUNT(s)", "COUNTA(s)", "MAX(s)", "MIN(s)", "AVERAGE(s)", "MEDIAN(s)", "IF(r,r,r)", "IF(r>r,SUM(s),r)", "IFERROR(r,r)", "AND(s)", "SQRT(r)", "r+#REF!", "7", `"x"`, "TRUE", "1/0", "SUM(s)/COUNT(s)", `TEXT(r,"f2")`, "0*r", "ABS(r)"}
	var b strings.Builder
	for _, c := range forms[m.Intn(len(forms))] {
		switch c {
		case 'r':
			b.WriteString(m.ref(row))
		case 's':
			b.WriteString(m.area(row))
		default:
			b.WriteRune(c)
		}
	}
	return b.String()
}

func (m maker) content(row int) api.Content {
	if m.Intn(4) > 0 {
		return fx(m.text(row))
	}
	return content([]any{1.0, 2.5, -3.0, 0.0, minus, inf, -inf, math.NaN(), 1e308, 5e-324, "a", "", "12", true, false, api.FaultDiv, api.FaultRef}[m.Intn(17)])
}

func (m maker) grid(t *testing.T, count int) *grid.Grid {
	t.Helper()
	g := grid.New()
	for range count {
		at := m.cell()
		put(t, g, at, m.content(at.Row))
	}
	return g
}

func (m maker) picks(most int) []int {
	var l []int
	for range m.Intn(most + 1) {
		l = append(l, []int{m.Intn(9) - 4, m.Int(), -m.Int(), math.MinInt, math.MaxInt, -1, 0}[m.Intn(7)])
	}
	return l
}

// check holds all that is told of a sheet against its model, and tells whether it has a circle.
func (m maker) check(t *testing.T, about string, g *grid.Grid) bool {
	t.Helper()
	w := modelOf(g)
	if ring := w.circles(); len(ring) > 0 {
		refused(t, about, g, ring)
		return true
	}
	want := w.cells()
	allAlike(t, about, g, told(want))
	picks := m.picks(len(want) + 3)
	l, err := whole.By(g, picks)
	if err != api.OK {
		t.Errorf("P19.2: %s: error %d", about, err)
	}
	sameCells(t, fmt.Sprintf("P19.2: %s: By(%v)", about, picks), places(l), w.order(picks))
	sameTold(t, "P19.2: "+about+": By", told(inOrder(l)), told(want))
	got, err := whole.Waves(g)
	if err != api.OK || fmt.Sprint(got) != fmt.Sprint(w.waves()) {
		t.Errorf("P19.4: %s: Waves: %v, %d, not %v", about, got, err, w.waves())
	}
	if l := whole.Circles(g); len(l) > 0 {
		t.Errorf("P19.4: %s: Circles: %s", about, names(l))
	}
	return false
}

// TestByChance: sheets of all sorts, many of them with circles.
func TestByChance(t *testing.T) {
	r := rand.New(rand.NewSource(191))
	rings, kinds, deep := 0, map[int]int{}, 0
	for i := range 600 {
		m := maker{r, xy(1+r.Intn(9), 5+r.Intn(9)), 1 + r.Intn(6), 1 + r.Intn(9), i%3 > 0}
		if i%10 == 0 {
			m.from = xy(257-m.cols, 4097-m.rows)
		}
		g := m.grid(t, r.Intn(m.cols*m.rows+3))
		if m.check(t, fmt.Sprintf("sheet %d", i), g) {
			rings++
			continue
		}
		for _, c := range mustCalc(t, g) {
			kinds[c.V.Kind]++
		}
		w, _ := whole.Waves(g)
		deep = max(deep, len(w))
		if t.Failed() {
			return
		}
	}
	if rings < 50 || rings > 300 || deep < 5 || kinds[api.Number] < 500 || kinds[api.Text] < 100 || kinds[api.Truth] < 100 || kinds[api.Fault] < 100 || kinds[api.Blank] > 0 {
		t.Errorf("too few of a sort: %d circles, kinds %v, %d waves", rings, kinds, deep)
	}
}

// TestGroupsByChance: formulas that name one or two others, so that circles of many sizes stand beside and behind one another.
func TestGroupsByChance(t *testing.T) {
	r := rand.New(rand.NewSource(192))
	sizes := map[int]int{}
	for i := range 300 {
		m := maker{r, xy(3, 3), 6, 6, false}
		g := grid.New()
		for row := 3; row < 9; row++ {
			for col := 3; col < 9; col++ {
				text := "1"
				for range r.Intn(3) {
					text += "+" + m.ref(row)
				}
				if r.Intn(40) == 0 {
					text += "+SUM(" + m.area(row) + ")"
				}
				put(t, g, xy(col, row), fx(text))
			}
		}
		m.check(t, fmt.Sprintf("groups %d", i), g)
		sizes[len(whole.Circles(g))]++
		if t.Failed() {
			return
		}
	}
	if len(sizes) < 12 {
		t.Errorf("too few of a sort: %v", sizes)
	}
}
