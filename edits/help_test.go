package edits_test

import (
	"fmt"
	"math"
	"slices"
	"strings"
	"testing"

	"quadrille/addr"
	"quadrille/api"
	"quadrille/edits"
	"quadrille/formula"
	"quadrille/grid"
	"quadrille/live"
	"quadrille/whole"
)

const theNaN = 0x7ff8 << 48

var (
	minus = math.Copysign(0, -1)
	inf   = math.Inf(1)
)

// nans are floats that are no numbers of mathematics, of several kinds.
func nans() []float64 {
	var l []float64
	for _, bits := range []uint64{theNaN, 0xfff8 << 48, 0x7ff<<52 | 1, 0xfff<<52 | 1, math.MaxUint64, 0x7ff8<<48 | 1} {
		l = append(l, math.Float64frombits(bits))
	}
	return l
}

func xy(col, row int) api.Addr { return api.Addr{Col: col, Row: row} }

func cell(text string) api.Addr {
	r, err := addr.Parse(text)
	if err != api.OK {
		panic("no cell: " + text)
	}
	return r.Addr
}

// place is the cell of a number, counted row by row over all columns.
func place(i int) api.Addr { return xy(1+i%api.MaxCol, 1+i/api.MaxCol) }

// noCells are addresses of no cell.
func noCells() []api.Addr {
	l := []api.Addr{{}, xy(257, 4096), xy(256, 4097), xy(257, 4097), xy(4096, 256)}
	for _, n := range []int{math.MinInt, -4096, -1, 0, 4097, 1<<32 + 1, math.MaxInt} {
		l = append(l, xy(n, 1), xy(1, n), xy(n, n))
	}
	return l
}

func name(at api.Addr) string {
	text, err := addr.Text(api.Ref{Addr: at})
	if err != api.OK {
		return fmt.Sprint(at)
	}
	return text
}

// val is a value; an int is a fault.
func val(x any) api.Value {
	switch x := x.(type) {
	case nil:
		return api.Value{}
	case float64:
		return api.Value{Kind: api.Number, X: x}
	case string:
		return api.Value{Kind: api.Text, S: x}
	case bool:
		return api.Value{Kind: api.Truth, B: x}
	case int:
		return api.Value{Kind: api.Fault, F: x}
	}
	panic("no value")
}

// fx is the content of a formula's text.
func fx(text string) api.Content {
	n, bad := formula.Parse(text)
	if bad != (api.Mishap{}) {
		panic("no formula: " + text)
	}
	return api.Content{Kind: api.Formula, F: n}
}

// content is that of a value, of a text that begins with = its formula, of nil the empty one.
func content(x any) api.Content {
	switch x := x.(type) {
	case nil:
		return api.Content{}
	case api.Content:
		return x
	case string:
		if strings.HasPrefix(x, "=") {
			return fx(x[1:])
		}
	}
	return api.Content{Kind: api.Plain, V: val(x)}
}

// noContents are contents that may not be, of several kinds.
func noContents() []api.Content {
	deep := api.Node{Kind: api.NodeNumber}
	for range api.MaxDeep {
		deep = api.Node{Kind: api.NodeUnary, Op: api.OpMinus, Args: []api.Node{deep}}
	}
	// A node whose list has itself, so that it never ends.
	endless := api.Node{Kind: api.NodeUnary, Op: api.OpMinus, Args: make([]api.Node, 1)}
	endless.Args[0] = endless
	return []api.Content{
		{Kind: 3}, {Kind: -1}, {Kind: math.MaxInt}, {Kind: api.Plain}, {Kind: api.Formula}, {V: val(7.0)}, {V: api.Value{X: minus}}, {F: fx("1").F},
		{Kind: api.Plain, V: api.Value{Kind: 5}}, {Kind: api.Plain, V: val(6)}, {Kind: api.Plain, V: val("\xff")}, {Kind: api.Plain, V: val(strings.Repeat("a", api.MaxText+1))},
		{Kind: api.Plain, V: val(1.0), F: fx("1").F}, {Kind: api.Formula, V: val(1.0), F: fx("1").F},
		{Kind: api.Formula, F: api.Node{Kind: api.NodeRef}}, {Kind: api.Formula, F: deep}, {Kind: api.Formula, F: endless},
	}
}

// puts are a batch: a cell, what is put there, and so on.
func puts(list ...any) []api.Put {
	var l []api.Put
	for i := 0; i < len(list); i += 2 {
		at, is := list[i].(api.Addr)
		if !is {
			at = cell(list[i].(string))
		}
		l = append(l, api.Put{At: at, C: content(list[i+1])})
	}
	return l
}

// many are puts of a content into each of so many cells, from a place on.
func many(from, count int, c func(i int) any) []api.Put {
	var l []api.Put
	for i := range count {
		l = append(l, api.Put{At: place(from + i), C: content(c(i))})
	}
	return l
}

// gridBy is a grid into which some puts were put.
func gridBy(batch []api.Put) *grid.Grid {
	g := grid.New()
	for _, p := range batch {
		if err := g.Put(p.At, p.C); err != api.OK {
			panic(err)
		}
	}
	return g
}

func gridOf(list ...any) *grid.Grid { return gridBy(puts(list...)) }

// do does a batch that is taken.
func do(t testing.TB, b *edits.Book, list ...any) {
	t.Helper()
	taken(t, b, puts(list...))
}

func taken(t testing.TB, b *edits.Book, batch []api.Put) {
	t.Helper()
	if n, err := b.Do(batch...); n != 0 || err != api.OK {
		t.Fatalf("P21.1: Do of %d puts: %d, error %d", len(batch), n, err)
	}
}

// is holds an error against the one that is due.
func is(t testing.TB, about string, err, want api.Errno) {
	t.Helper()
	if err != want {
		t.Errorf("%s: error %d, not %d", about, err, want)
	}
}

// counts holds Backs and Agains against numbers.
func counts(t testing.TB, about string, b *edits.Book, backs, agains int) {
	t.Helper()
	if b.Backs() != backs || b.Agains() != agains {
		t.Errorf("%s: Backs %d, Agains %d, not %d, %d", about, b.Backs(), b.Agains(), backs, agains)
	}
}

func shows(t testing.TB, b *edits.Book, at string, want any) {
	t.Helper()
	if got := b.Value(cell(at)); toldValue(got) != toldValue(val(want)) {
		t.Errorf("P21.3: %s shows %s, not %s", at, toldValue(got), toldValue(val(want)))
	}
}

// toldValue is all that a value has, bit by bit.
func toldValue(v api.Value) string {
	return fmt.Sprintf("%d/%x/%q/%v/%d", v.Kind, math.Float64bits(v.X), v.S, v.B, v.F)
}

func toldNode(n api.Node) string {
	var b strings.Builder
	fmt.Fprintf(&b, "%d/%d/%x/%q/%v/%d/%v/%v(", n.Kind, n.Op, math.Float64bits(n.X), n.S, n.B, n.F, n.Ref, n.To)
	for _, a := range n.Args {
		b.WriteString(toldNode(a))
	}
	return b.String() + ")"
}

func toldContent(c api.Content) string {
	if c.Kind == api.Plain {
		return "plain " + toldValue(c.V)
	}
	return fmt.Sprintf("%d %s %s", c.Kind, toldValue(c.V), toldNode(c.F))
}

func toldPuts(l []api.Put) string {
	var b strings.Builder
	for _, p := range l {
		fmt.Fprintf(&b, "%s := %s\n", name(p.At), toldContent(p.C))
	}
	return b.String()
}

func toldCells(l []api.Cell) string {
	var b strings.Builder
	for _, c := range l {
		fmt.Fprintf(&b, "%s: %s => %s\n", name(c.At), toldContent(c.C), toldValue(c.V))
	}
	return b.String()
}

func toldGrid(g *grid.Grid) string {
	var b strings.Builder
	for at, c := range g.All() {
		fmt.Fprintf(&b, "%s: %s\n", name(at), toldContent(c))
	}
	return b.String()
}

// toldSheet is what a sheet tells.
func toldSheet(s *live.Sheet) string {
	var b strings.Builder
	b.WriteString(toldCells(s.Cells()))
	g := s.Grid()
	for at := range g.All() {
		fmt.Fprintf(&b, "%s: %s, %s", name(at), toldContent(s.Content(at)), toldValue(s.Value(at)))
		if g.Len() < 30 {
			fmt.Fprintf(&b, ", used by %v", s.Users(at))
		}
		b.WriteByte('\n')
	}
	fmt.Fprintf(&b, "worked %v, changed %v\n", s.Worked(), s.Changed())
	return b.String()
}

// toldNow is all that a book tells of its present contents, and how many are beside them.
func toldNow(b *edits.Book) string {
	var text strings.Builder
	s := b.Sheet()
	fmt.Fprintf(&text, "%d behind, %d ahead\n%s", b.Backs(), b.Agains(), toldSheet(s))
	for at := range s.Grid().All() {
		fmt.Fprintf(&text, "%s shows %s\n", name(at), toldValue(b.Value(at)))
	}
	return text.String() + "last:\n" + toldPuts(b.Last())
}

// toldBook is all that a book tells, of its rows too: it is taken back as far as it goes, then on as far as it goes, and back to where it was.
func toldBook(b *edits.Book) string {
	var text strings.Builder
	backs := b.Backs()
	text.WriteString(toldNow(b))
	for b.Undo() == api.OK {
		text.WriteString(toldNow(b))
	}
	for b.Redo() == api.OK {
		text.WriteString(toldNow(b))
	}
	for b.Backs() > backs {
		b.Undo()
	}
	return text.String() + toldNow(b)
}

func sameTold(t testing.TB, about, got, want string) {
	t.Helper()
	if got == want {
		return
	}
	a, b := strings.Split(got, "\n"), strings.Split(want, "\n")
	for i := range min(len(a), len(b)) {
		if a[i] != b[i] {
			t.Errorf("%s: line %d of %d is %s, not %s", about, i, len(a), short(a[i]), short(b[i]))
			return
		}
	}
	t.Errorf("%s: %d lines, not %d", about, len(a), len(b))
}

func short(s string) string {
	if len(s) > 300 {
		return s[:300] + ".."
	}
	return s
}

// refused does a batch that is refused: nothing has changed, neither behind nor ahead.
func refused(t testing.TB, about string, b *edits.Book, batch []api.Put, number int, want api.Errno) {
	t.Helper()
	was := toldBook(b)
	if n, err := b.Do(batch...); n != number || err != want {
		t.Errorf("P21.1: %s: %d, error %d, not %d, error %d", about, n, err, number, want)
	}
	sameTold(t, "P21.4: "+about+": the book behind what is refused", toldBook(b), was)
}

// noStep does a batch that leads to the contents that are there.
func noStep(t testing.TB, about string, b *edits.Book, batch []api.Put) {
	t.Helper()
	was := toldBook(b)
	taken(t, b, batch)
	sameTold(t, "P21.1: "+about+" is no step", toldBook(b), was)
	is(t, "P21.1: "+about+": Become of what is there", b.Become(b.Sheet().Grid()), api.OK)
	sameTold(t, "P21.1: "+about+": Become of what is there is no step", toldBook(b), was)
}

// model is a book as chapter 21's words have it: contents, and two rows of contents.
type model struct {
	now           *grid.Grid
	behind, ahead []*grid.Grid // the nearest ones last
}

func newModel() *model { return &model{now: grid.New()} }

func (m *model) step(g *grid.Grid) {
	if m.now.Equal(g) {
		return
	}
	m.behind = append(m.behind, m.now)
	if len(m.behind) > 64 {
		m.behind = m.behind[1:]
	}
	m.ahead, m.now = nil, g
}

func (m *model) do(batch []api.Put) (int, api.Errno) {
	s, err := live.From(m.now)
	if err != api.OK {
		panic(err)
	}
	n, err := s.Set(batch...)
	if err == api.OK {
		m.step(s.Grid())
	}
	return n, err
}

func (m *model) become(g *grid.Grid) api.Errno {
	if _, err := live.From(g); err != api.OK {
		return err
	}
	m.step(g.Clone())
	return api.OK
}

func (m *model) undo() api.Errno { return m.pass(&m.behind, &m.ahead) }
func (m *model) redo() api.Errno { return m.pass(&m.ahead, &m.behind) }

func (m *model) pass(from, to *[]*grid.Grid) api.Errno {
	if len(*from) == 0 {
		return api.ErrBack
	}
	*to = append(*to, m.now)
	m.now = (*from)[len(*from)-1]
	*from = slices.Clone((*from)[:len(*from)-1])
	return api.OK
}

// last is what Last has to tell.
func (m *model) last() []api.Put {
	if len(m.behind) == 0 {
		return nil
	}
	return m.now.Puts(m.behind[len(m.behind)-1])
}

// holds holds what a book tells of its present contents against the model, and against these contents worked out at once.
func (m *model) holds(t testing.TB, about string, b *edits.Book) {
	t.Helper()
	counts(t, "P21.2: "+about, b, len(m.behind), len(m.ahead))
	want, err := live.From(m.now)
	if err != api.OK {
		t.Fatalf("%s: From of the model: error %d", about, err)
	}
	got := b.Sheet()
	sameTold(t, "P21.3: "+about+": Sheet", toldSheet(got), toldSheet(want))
	if !got.Grid().Equal(m.now) {
		t.Errorf("P21.3: %s: Sheet has other contents", about)
	}
	all, err := whole.Calc(m.now)
	is(t, "Q3: "+about, err, api.OK)
	sameTold(t, "Q1: "+about, toldCells(got.Cells()), toldCells(all))
	for _, c := range all {
		if v := b.Value(c.At); toldValue(v) != toldValue(c.V) {
			t.Errorf("P21.3: %s: Value of %s: %s, not %s", about, name(c.At), toldValue(v), toldValue(c.V))
		}
	}
	last := b.Last()
	sameTold(t, "P21.3: "+about+": Last", toldPuts(last), toldPuts(m.last()))
	if len(m.behind) > 0 && !led(m.now, last).Equal(m.behind[len(m.behind)-1]) {
		t.Errorf("P21.3: %s: Last leads elsewhere", about)
	}
}

// led is a grid to which puts lead from another one.
func led(g *grid.Grid, list []api.Put) *grid.Grid {
	o := g.Clone()
	for _, empty := range []bool{true, false} {
		for _, p := range list {
			if (p.C.Kind == api.Empty) == empty {
				o.Put(p.At, p.C)
			}
		}
	}
	return o
}

// holdsAll holds the rows too: all that is behind, all that is ahead, and what is there behind having gone there.
func (m *model) holdsAll(t testing.TB, about string, b *edits.Book) {
	t.Helper()
	o := &model{m.now, slices.Clone(m.behind), slices.Clone(m.ahead)}
	o.holds(t, about, b)
	for o.undo() == api.OK {
		is(t, "P21.2: "+about+": Undo", b.Undo(), api.OK)
		o.holds(t, about+", gone back", b)
	}
	is(t, "P21.2: "+about+": one Undo more", b.Undo(), api.ErrBack)
	for o.redo() == api.OK {
		is(t, "P21.2: "+about+": Redo", b.Redo(), api.OK)
		o.holds(t, about+", gone on", b)
	}
	is(t, "P21.2: "+about+": one Redo more", b.Redo(), api.ErrBack)
	for range m.ahead {
		is(t, "P21.2: "+about+": Undo to where it was", b.Undo(), api.OK)
	}
	m.holds(t, about+", there and back", b)
}
