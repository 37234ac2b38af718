package live_test

import (
	"fmt"
	"iter"
	"maps"
	"math/rand"
	"slices"
	"strings"
	"testing"

	"quadrille/api"
	"quadrille/eval"
	"quadrille/grid"
	"quadrille/live"
	"quadrille/value"
)

// model is a sheet's contents; all else is worked out of these as chapter 20 says it.
type model map[api.Addr]api.Content

func standing(a, b api.Addr) int { return (a.Row-b.Row)*1000 + a.Col - b.Col }

// all are the cells, in order.
func (m model) all() []api.Addr { return slices.SortedFunc(maps.Keys(m), standing) }

// namesCell tells whether a tree names a cell.
func namesCell(n api.Node, at api.Addr) bool {
	switch n.Kind {
	case api.NodeRef:
		return n.Ref.Addr == at
	case api.NodeArea:
		from, to := n.Ref.Addr, n.To.Addr
		return from.Col <= at.Col && at.Col <= to.Col && from.Row <= at.Row && at.Row <= to.Row
	}
	return slices.ContainsFunc(n.Args, func(a api.Node) bool { return namesCell(a, at) })
}

func (m model) uses(user, at api.Addr) bool {
	return m[user].Kind == api.Formula && namesCell(m[user].F, at)
}

func (m model) users(at api.Addr) []api.Addr {
	return slices.DeleteFunc(m.all(), func(user api.Addr) bool { return !m.uses(user, at) })
}

// hangs tells whether a cell hangs on itself: from users to users of users till there is nothing new.
func (m model) hangs(at api.Addr) bool {
	found := map[api.Addr]bool{}
	for line := []api.Addr{at}; len(line) > 0; line = line[1:] {
		for _, user := range m.users(line[0]) {
			if !found[user] {
				found[user] = true
				line = append(line, user)
			}
		}
	}
	return found[at]
}

// lazy is a source that works each formula out when it is asked for it.
type lazy struct {
	model
	known map[api.Addr]api.Value
}

func (l lazy) Cell(at api.Addr) api.Value {
	c := l.model[at]
	if c.Kind != api.Formula {
		return grid.Copy(c).V
	}
	if v, is := l.known[at]; is {
		return v
	}
	v, err := eval.Eval(c.F, l)
	if err != api.OK {
		panic(err)
	}
	l.known[at] = v
	return v
}

func (l lazy) Each(a api.Area) iter.Seq2[api.Addr, api.Value] {
	return func(yield func(api.Addr, api.Value) bool) {
		for _, at := range l.all() {
			if a.From.Col <= at.Col && at.Col <= a.To.Col && a.From.Row <= at.Row && at.Row <= a.To.Row && !yield(at, l.Cell(at)) {
				return
			}
		}
	}
}

func (m model) shows() map[api.Addr]api.Value {
	source := lazy{m, map[api.Addr]api.Value{}}
	shows := map[api.Addr]api.Value{}
	for at := range m {
		shows[at] = source.Cell(at)
	}
	return shows
}

// check is the first error of a batch, and its number.
func (m model) check(batch []api.Put) (int, api.Errno) {
	if len(batch) > api.MaxBatch {
		return api.MaxBatch, api.ErrMany
	}
	for i, p := range batch {
		switch {
		case p.At.Col < 1 || p.At.Col > 256 || p.At.Row < 1 || p.At.Row > 4096:
			return i, api.ErrAddr
		case !grid.Valid(p.C):
			return i, api.ErrArg
		case slices.ContainsFunc(batch[:i], func(q api.Put) bool { return p.At == q.At }):
			return i, api.ErrTwice
		}
	}
	behind := m.behind(batch)
	if len(behind) > api.MaxCells {
		return 0, api.ErrFull
	}
	if n := slices.IndexFunc(batch, func(p api.Put) bool { return behind.hangs(p.At) }); n >= 0 {
		return n, api.ErrCycle
	}
	return 0, api.OK
}

// behind is the model behind a batch, taken or not.
func (m model) behind(batch []api.Put) model {
	o := maps.Clone(m)
	for _, p := range batch {
		o[p.At] = grid.Copy(p.C)
		if p.C.Kind == api.Empty {
			delete(o, p.At)
		}
	}
	return o
}

// set is what Set has to answer, and what Worked and Changed behind it.
func (m model) set(batch []api.Put) (number int, worked, changed []api.Addr, err api.Errno) {
	if number, err = m.check(batch); err != api.OK {
		return number, nil, nil, err
	}
	was := m.shows()
	behind := m.behind(batch)
	now := behind.shows()
	both := maps.Clone(was)
	maps.Copy(both, now)
	for _, at := range slices.SortedFunc(maps.Keys(both), standing) {
		if !value.Same(was[at], now[at]) {
			changed = append(changed, at)
		}
	}
	for _, at := range behind.all() {
		put := slices.ContainsFunc(batch, func(p api.Put) bool { return p.At == at })
		uses := slices.ContainsFunc(changed, func(c api.Addr) bool { return behind.uses(at, c) })
		if behind[at].Kind == api.Formula && (put || uses) {
			worked = append(worked, at)
		}
	}
	clear(m)
	maps.Copy(m, behind)
	return 0, worked, changed, api.OK
}

// maker makes batches by chance, within some columns and rows from one cell on.
type maker struct {
	*rand.Rand
	from       api.Addr
	cols, rows int
}

func (m maker) cell() api.Addr { return xy(m.from.Col+m.Intn(m.cols), m.from.Row+m.Intn(m.rows)) }

func (m maker) area() string {
	a, b := m.cell(), m.cell()
	if m.Intn(2) == 0 {
		b.Col = a.Col
	}
	return name(a) + ":" + name(b)
}

// text is a formula: r stands for a cell, s for an area.
func (m maker) text() string {
	forms := []string{"r+1", "r+r", "r*r", "r-r", "r/r", "r^2", "-r", "r%", "r", "r&r", "r=r", "r<r", "SUM(s)", "SUM(s,r)", "COUNT(s)", "COUNTA(s)", "MAX(s)", "MIN(s)", "AVERAGE(s)", "MEDIAN(s)", "IF(r,r,r)", "IF(r>r,SUM(s),r)", "IFERROR(r,r)", "AND(s)", "SQRT(r)", "r+#REF!", "7", `"x"`, "TRUE", "1/0", `TEXT(r,"f2")`, "0*r", "r>0", "ABS(r)"}
	var b strings.Builder
	for _, c := range forms[m.Intn(len(forms))] {
		switch c {
		case 'r':
			b.WriteString(name(m.cell()))
		case 's':
			b.WriteString(m.area())
		default:
			b.WriteRune(c)
		}
	}
	return b.String()
}

func (m maker) content() api.Content {
	switch m.Intn(8) {
	case 0:
		return api.Content{}
	case 1, 2, 3, 4, 5:
		return fx(m.text())
	}
	return content([]any{1.0, 2.0, -3.0, 0.0, 0.0, minus, inf, -inf, nans()[m.Intn(6)], 1e308, 5e-324, "a", "", "12", true, false, api.FaultDiv, api.FaultRef}[m.Intn(18)])
}

func (m maker) batch() []api.Put {
	var l []api.Put
	for range m.Intn(1 + m.Intn(9)) {
		p := api.Put{At: m.cell(), C: m.content()}
		if m.Intn(3) > 0 && slices.ContainsFunc(l, func(q api.Put) bool { return p.At == q.At }) {
			continue
		}
		switch m.Intn(100) {
		case 0:
			p.At = noCells()[m.Intn(len(noCells()))]
		case 1:
			p.C = noContents()[m.Intn(len(noContents()))]
		}
		l = append(l, p)
	}
	return l
}

// TestByChance: long rows of batches; behind each step all that the sheet tells is held against the model, and against its grid, worked out at once.
func TestByChance(t *testing.T) {
	r := rand.New(rand.NewSource(202))
	errs, kinds, most := map[api.Errno]int{}, map[int]int{}, 0
	for i := range 60 {
		m := maker{r, xy(1+r.Intn(9), 1+r.Intn(9)), 1 + r.Intn(6), 1 + r.Intn(7)}
		if i%10 == 0 {
			m.from = xy(257-m.cols, 4097-m.rows)
		}
		w, s := model{}, live.New()
		var worked, changed []api.Addr
		for k := range 60 {
			batch := m.batch()
			about := fmt.Sprintf("row %d, batch %d", i, k)
			n, err := s.Set(batch...)
			number, newWorked, newChanged, want := w.set(batch)
			if n != number || err != want {
				t.Fatalf("P20.1: %s: %d, error %d, not %d, error %d", about, n, err, number, want)
			}
			if errs[err]++; err == api.OK {
				worked, changed = newWorked, newChanged
			}
			most = max(most, len(worked))
			sameCells(t, "P20.3: "+about+": Worked", s.Worked(), worked)
			sameCells(t, "P20.3: "+about+": Changed", s.Changed(), changed)
			m.holds(t, about, s, w)
			for _, v := range w.shows() {
				kinds[v.Kind]++
			}
			if t.Failed() {
				return
			}
		}
	}
	if len(errs) < 5 || errs[api.OK] < 1000 || errs[api.ErrCycle] < 200 || most < 10 || kinds[api.Number] < 1000 || kinds[api.Text] < 500 || kinds[api.Truth] < 500 || kinds[api.Fault] < 500 {
		t.Errorf("too few of a sort: errors %v, kinds %v, %d worked", errs, kinds, most)
	}
}

// holds holds a sheet against its model, cell by cell.
func (m maker) holds(t *testing.T, about string, s *live.Sheet, w model) {
	t.Helper()
	isWhole(t, about, s)
	now := w.shows()
	var list []api.Cell
	for _, at := range w.all() {
		list = append(list, api.Cell{At: at, C: w[at], V: now[at]})
	}
	sameTold(t, "P20.2: "+about+": Cells", toldCells(s.Cells()), toldCells(list))
	for col := m.from.Col - 1; col <= m.from.Col+m.cols; col++ {
		for row := m.from.Row - 1; row <= m.from.Row+m.rows; row++ {
			at := xy(col, row)
			if toldValue(s.Value(at)) != toldValue(now[at]) || toldContent(s.Content(at)) != toldContent(w[at]) {
				t.Errorf("P20.2: %s: %s has %s and shows %s", about, name(at), toldContent(s.Content(at)), toldValue(s.Value(at)))
			}
			if (col+row)%3 == 0 {
				sameCells(t, "P20.2: "+about+": Users", s.Users(at), w.users(at))
			}
		}
	}
}
