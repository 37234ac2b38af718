package move_test

import (
	"fmt"
	"math/rand"
	"slices"
	"strings"
	"testing"

	"quadrille/addr"
	"quadrille/api"
	"quadrille/grid"
	"quadrille/write"
)

// sheet is a grid's contents, as the models have them.
type sheet map[api.Addr]api.Content

func sheetOf(g *grid.Grid) sheet {
	s := sheet{}
	for at, c := range g.All() {
		s[at] = c
	}
	return s
}

func (s sheet) told() string {
	g := grid.New()
	for at, c := range s {
		put(g, at, c)
	}
	return toldGrid(g)
}

// lineUp tells to which place each line is brought, 0 of one that goes or falls off: the lines are laid out one by one.
func lineUp(at, count, most int) []int {
	var row []int
	for line := 1; line <= most; line++ {
		row = append(row, line)
	}
	if count >= 0 {
		row = slices.Insert(row, at-1, make([]int, count)...)
	} else {
		row = slices.Delete(row, at-1, min(at-1-count, most))
	}
	where := make([]int, most+1)
	for i, line := range row {
		if line > 0 && i < most {
			where[line] = i + 1
		}
	}
	return where
}

// goneAlong is a formula whose references have gone along with lines.
func goneAlong(n api.Node, cols bool, where []int) api.Node {
	return renamed(n, func(n api.Node) (api.Node, bool) {
		from, to := &n.Ref.Addr.Row, &n.To.Addr.Row
		if cols {
			from, to = &n.Ref.Addr.Col, &n.To.Addr.Col
		}
		if n.Kind == api.NodeRef {
			*from = where[*from]
			return n, *from > 0
		}
		var places []int
		for line := *from; line <= *to; line++ {
			if where[line] > 0 {
				places = append(places, where[line])
			}
		}
		if len(places) == 0 {
			return n, false
		}
		*from, *to = slices.Min(places), slices.Max(places)
		return n, true
	})
}

// renamed is a formula in new memory, each node of which that names cells is what become tells; false: lost.
func renamed(n api.Node, become func(n api.Node) (api.Node, bool)) api.Node {
	if n.Kind == api.NodeRef || n.Kind == api.NodeArea {
		if m, ok := become(n); ok {
			return m
		}
		return api.Node{Kind: api.NodeFault, F: api.FaultRef}
	}
	var args []api.Node
	for _, a := range n.Args {
		args = append(args, renamed(a, become))
	}
	n.Args = args
	return n
}

// byLines is P22.2.
func (s sheet) byLines(cols bool, at, n int) (sheet, api.Errno) {
	most := api.MaxRow
	if cols {
		most = api.MaxCol
	}
	if at < 1 || at > most || n < -most || n > most {
		return nil, api.ErrArg
	}
	where := lineUp(at, n, most)
	o := sheet{}
	for place, c := range s {
		line := &place.Row
		if cols {
			line = &place.Col
		}
		*line = where[*line]
		if *line == 0 && n > 0 {
			return nil, api.ErrAddr
		}
		if *line > 0 {
			c.F = goneAlong(c.F, cols, where)
			o[place] = c
		}
	}
	return o, api.OK
}

func isCell(at api.Addr) bool {
	return 1 <= at.Col && at.Col <= 256 && 1 <= at.Row && at.Row <= 4096
}

func isArea(a api.Area) bool {
	return isCell(a.From) && isCell(a.To) && a.From.Col <= a.To.Col && a.From.Row <= a.To.Row
}

// has tells whether an area has a cell.
func has(a api.Area, at api.Addr) bool {
	return a.From.Col <= at.Col && at.Col <= a.To.Col && a.From.Row <= at.Row && at.Row <= a.To.Row
}

// places are an area's cells, each with its cell in the area that is as great and whose first cell is to.
func places(a api.Area, to api.Addr) map[api.Addr]api.Addr {
	m := map[api.Addr]api.Addr{}
	for row := a.From.Row; row <= a.To.Row; row++ {
		for col := a.From.Col; col <= a.To.Col; col++ {
			m[xy(col, row)] = xy(to.Col+col-a.From.Col, to.Row+row-a.From.Row)
		}
	}
	return m
}

// placeErr is the error of Copy and Move.
func placeErr(from api.Area, to api.Addr) api.Errno {
	if !isArea(from) {
		return api.ErrArg
	}
	if !isCell(to) || !isCell(places(from, to)[from.To]) {
		return api.ErrAddr
	}
	return api.OK
}

func (s sheet) clone() sheet {
	o := sheet{}
	for at, c := range s {
		o[at] = c
	}
	return o
}

// take puts a content, the empty one too.
func (s sheet) take(at api.Addr, c api.Content) {
	if c.Kind == api.Empty {
		delete(s, at)
	} else {
		s[at] = c
	}
}

func shifted(c api.Content, from, to api.Addr) api.Content {
	if c.Kind == api.Formula {
		c.F, _ = write.Shift(c.F, to.Col-from.Col, to.Row-from.Row)
	}
	return c
}

func (s sheet) orFull() (sheet, api.Errno) {
	if len(s) > api.MaxCells {
		return nil, api.ErrFull
	}
	return s, api.OK
}

// copied is P22.3.
func (s sheet) copied(from api.Area, to api.Addr) (sheet, api.Errno) {
	if err := placeErr(from, to); err != api.OK {
		return nil, err
	}
	o := s.clone()
	for at, there := range places(from, to) {
		o.take(there, shifted(s[at], from.From, to))
	}
	return o.orFull()
}

// filled is P22.4.
func (s sheet) filled(from api.Addr, to api.Area) (sheet, api.Errno) {
	if !isArea(to) {
		return nil, api.ErrArg
	}
	if !isCell(from) {
		return nil, api.ErrAddr
	}
	o := s.clone()
	for at := range places(to, to.From) {
		o.take(at, shifted(s[from], from, at))
	}
	return o.orFull()
}

// movedArea is P22.5. Whether an area lies within another one is asked cell by cell.
func (s sheet) movedArea(from api.Area, to api.Addr) (sheet, api.Errno) {
	if err := placeErr(from, to); err != api.OK {
		return nil, err
	}
	way := places(from, to)
	there := map[api.Addr]int{}
	o := s.clone()
	for at, place := range way {
		there[place] = 1
		o.take(place, s[at])
	}
	for at := range way {
		if there[at] == 0 {
			o.take(at, api.Content{})
		}
	}
	for at, c := range o {
		c.F = renamed(c.F, func(n api.Node) (api.Node, bool) {
			if lies(named(n), func(at api.Addr) bool { return has(from, at) }) {
				n.Ref.Addr, n.To.Addr = way[n.Ref.Addr], way[n.To.Addr] // To is zero where it is no area, and stays so
				return n, true
			}
			return n, !lies(named(n), func(at api.Addr) bool { return there[at] == 1 })
		})
		o[at] = c
	}
	return o, api.OK
}

// lies tells whether all cells of an area are some.
func lies(a api.Area, some func(at api.Addr) bool) bool {
	for row := a.From.Row; row <= a.To.Row; row++ {
		for col := a.From.Col; col <= a.To.Col; col++ {
			if !some(xy(col, row)) {
				return false
			}
		}
	}
	return true
}

// named is the area that a node names.
func named(n api.Node) api.Area {
	if n.Kind == api.NodeArea {
		return api.Area{From: n.Ref.Addr, To: n.To.Addr}
	}
	return api.Area{From: n.Ref.Addr, To: n.Ref.Addr}
}

// clear is P22.6.
func (s sheet) clear(a api.Area) (sheet, api.Errno) {
	if !isArea(a) {
		return nil, api.ErrArg
	}
	o := s.clone()
	for at := range places(a, a.From) {
		o.take(at, api.Content{})
	}
	return o, api.OK
}

// maker makes grids and arguments by chance, in a window of some columns and rows.
type maker struct {
	*rand.Rand
	window api.Area
}

// newMaker has its window at one of the sheet's corners, or somewhere else.
func newMaker(r *rand.Rand) maker {
	w, h := 1+r.Intn(6), 1+r.Intn(7)
	from := xy(1, 1)
	switch r.Intn(4) {
	case 0:
		from = xy(257-w, 4097-h)
	case 1:
		from = xy(1+r.Intn(40), 1+r.Intn(4000))
	}
	return maker{r, api.Area{From: from, To: xy(from.Col+w-1, from.Row+h-1)}}
}

// between is a number from one to another one.
func (m maker) between(a, b int) int { return a + m.Intn(b-a+1) }

// cell is one of the window.
func (m maker) cell() api.Addr {
	return xy(m.between(m.window.From.Col, m.window.To.Col), m.between(m.window.From.Row, m.window.To.Row))
}

// near is a cell in the window or beside it; now and then beyond the sheet.
func (m maker) near() api.Addr {
	at := xy(m.between(m.window.From.Col-1, m.window.To.Col+2), m.between(m.window.From.Row-1, m.window.To.Row+2))
	if m.Intn(3) > 0 {
		at = xy(max(1, min(256, at.Col)), max(1, min(4096, at.Row)))
	}
	return at
}

// area is one within the window.
func (m maker) area() api.Area {
	a, err := addr.Area(m.cell(), m.cell())
	if err != api.OK {
		panic("no area")
	}
	return a
}

// text is a formula: r stands for a cell, s for an area, n for a small number.
func (m maker) text() string {
	forms := []string{"r+1", "r+r", "r*r-r", "r/r", "-r", "r%", "r", "r&r", "r=r", "SUM(s)", "SUM(s,r)", "SUM(s,s)", "COUNTA(s)", "MAX(s)+COUNT(s)", "AVERAGE(s)", "JOIN(s)", "SUMPRODUCT(s,s)", "IF(r,r,SUM(s))", "IFERROR(r,n)", "LARGE(s,n)", "r+#REF!", "n", `"x"`, "TRUE", "1/0", "r>n", "ISBLANK(r)", "CHOOSE(n,r,r)"}
	var b strings.Builder
	for _, c := range forms[m.Intn(len(forms))] {
		switch c {
		case 'r':
			b.WriteString(m.ref())
		case 's':
			b.WriteString(m.ref() + ":" + m.ref())
		case 'n':
			b.WriteString(fmt.Sprint(m.Intn(3)))
		default:
			b.WriteRune(c)
		}
	}
	return b.String()
}

// ref is a cell's text, mostly of the window, with marks or without.
func (m maker) ref() string {
	at := m.cell()
	if m.Intn(8) == 0 {
		at = m.near()
	}
	if !isCell(at) || m.Intn(60) == 0 {
		at = xy(m.between(1, 256), m.between(1, 4096))
	}
	text, _ := addr.Text(api.Ref{Addr: at, ColFixed: m.Intn(4) == 0, RowFixed: m.Intn(4) == 0})
	return text
}

func (m maker) content() api.Content {
	if m.Intn(2) == 0 {
		return content("=" + m.text())
	}
	list := []string{"1", "2", "3", "0.1", "-0", "0", "NaN", "Inf", "-Inf", "5e-324", "'", "'a", "'12", "TRUE", "FALSE", "#DIV!", "#REF!"}
	return content(list[m.Intn(len(list))])
}

// grid is one with cells in the window.
func (m maker) grid() *grid.Grid {
	g := grid.New()
	for range m.Intn(2 + addr.Size(m.window)) {
		put(g, m.cell(), m.content())
	}
	return g
}

// line is a line's number; now and then none that may be.
func (m maker) line(from, to, most int) int {
	if m.Intn(12) == 0 {
		return []int{0, 1, most, most + 1}[m.Intn(4)]
	}
	return m.between(from-1, to+1)
}

// count is how many lines are put in or taken out; now and then more than may be.
func (m maker) count(most int) int {
	if m.Intn(6) == 0 {
		return []int{0, most - 1, most, most + 1, 100}[m.Intn(5)] * (1 - 2*m.Intn(2))
	}
	return m.between(-4, 4)
}

// call is one of the calls, and what the model comes to.
func (m maker) call(s sheet) (a act, want sheet, err api.Errno) {
	w := m.window
	switch m.Intn(8) {
	case 0:
		at, n := m.line(w.From.Row, w.To.Row, 4096), m.count(4096)
		want, err = s.byLines(false, at, n)
		return rows(at, n), want, err
	case 1:
		at, n := m.line(w.From.Col, w.To.Col, 256), m.count(256)
		want, err = s.byLines(true, at, n)
		return cols(at, n), want, err
	case 2, 3:
		from, to := m.area(), m.near()
		want, err = s.copied(from, to)
		return copied(from, to), want, err
	case 4:
		from, to := m.near(), m.area()
		want, err = s.filled(from, to)
		return filled(from, to), want, err
	case 5:
		a := m.area()
		want, err = s.clear(a)
		return cleared(a), want, err
	}
	from, to := m.area(), m.near()
	want, err = s.movedArea(from, to)
	return moved(from, to), want, err
}

// TestByChance: all calls, over many grids, against the models.
func TestByChance(t *testing.T) {
	r := rand.New(rand.NewSource(221))
	met := map[string]int{}
	for i := range 12000 {
		m := newMaker(r)
		g := m.grid()
		was := toldGrid(g)
		a, want, err := m.call(sheetOf(g))
		h, got := a.do(g)
		about := fmt.Sprintf("grid %d (%s), %s", i, short(told(g)), a.what)
		if got != err || (got != api.OK) != (h == nil) {
			t.Fatalf("%s: error %d, not %d", about, got, err)
		}
		if err == api.OK {
			sameTold(t, about, toldGrid(h), want.told())
		}
		sameTold(t, "P22.7: "+about+": the grid behind it", toldGrid(g), was)
		if t.Failed() {
			return
		}
		met[fmt.Sprint(a.what[:5], " ", int(err))]++
		if lostOf(h) > lostOf(g) {
			met[a.what[:5]+" lost"]++
		}
	}
	for _, what := range []string{"P22.2 0", "P22.2 1", "P22.2 20", "P22.2 lost", "P22.3 0", "P22.3 20", "P22.3 lost", "P22.4 0", "P22.4 20", "P22.4 lost", "P22.5 0", "P22.5 20", "P22.5 lost", "P22.6 0"} {
		if met[what] < 20 {
			t.Errorf("too few of %s: %v", what, met)
		}
	}
}

// lostOf is how many nodes of a grid's formulas are lost references.
func lostOf(g *grid.Grid) int {
	count := 0
	for _, c := range g.All() {
		count += lostIn(c.F)
	}
	return count
}

func lostIn(n api.Node) int {
	count := 0
	if n.Kind == api.NodeFault && n.F == api.FaultRef {
		count++
	}
	for _, a := range n.Args {
		count += lostIn(a)
	}
	return count
}
