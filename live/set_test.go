package live_test

import (
	"fmt"
	"math"
	"slices"
	"strings"
	"testing"

	"quadrille/api"
	"quadrille/live"
)

// P20.1: taken or refused.

// noContents are contents that may not be, of many kinds.
func noContents() []api.Content {
	node := func(n api.Node) api.Content { return api.Content{Kind: api.Formula, F: n} }
	deep := api.Node{Kind: api.NodeNumber}
	for range api.MaxDeep {
		deep = api.Node{Kind: api.NodeUnary, Op: api.OpMinus, Args: []api.Node{deep}}
	}
	endless := api.Node{Kind: api.NodeUnary, Op: api.OpMinus, Args: make([]api.Node, 1)}
	endless.Args[0] = endless
	return []api.Content{
		{Kind: 3}, {Kind: -1}, {Kind: math.MaxInt}, {Kind: math.MinInt},
		{Kind: api.Plain}, {Kind: api.Formula}, {V: val(7.0)}, {V: val("")}, {F: fx("1").F}, {V: api.Value{X: minus}}, {F: api.Node{X: minus}},
		{Kind: api.Plain, V: api.Value{Kind: 5}}, {Kind: api.Plain, V: api.Value{Kind: -1}}, {Kind: api.Plain, V: val(0)}, {Kind: api.Plain, V: val(6)},
		{Kind: api.Plain, V: val("\xff")}, {Kind: api.Plain, V: val(strings.Repeat("a", api.MaxText+1))}, {Kind: api.Plain, V: api.Value{Kind: api.Number, S: "x"}},
		{Kind: api.Plain, V: val(1.0), F: fx("1").F}, {Kind: api.Formula, V: val(1.0), F: fx("1").F},
		node(api.Node{Kind: api.NodeRef}), node(api.Node{Kind: api.NodeNumber, X: -1, S: "x"}), node(api.Node{Kind: api.NodeCall, S: "NONE"}), node(api.Node{Kind: api.NodeBinary, Op: api.OpAdd, Args: []api.Node{fx("1").F}}),
		node(deep), node(endless),
	}
}

func TestExamples(t *testing.T) {
	s := live.New()
	set(t, s, "A1", 2.0, "B1", "=A1+1", "C1", "=B1*2")
	shows(t, s, "B1", 3.0)
	shows(t, s, "C1", 6.0)
	did(t, s, "B1 C1", "A1 B1 C1")
	set(t, s, "A1", 3.0)
	shows(t, s, "C1", 8.0)
	did(t, s, "B1 C1", "A1 B1 C1")
	set(t, s, "A1", 3.0)
	did(t, s, "", "")
	set(t, s, "D1", "=C1*0")
	did(t, s, "D1", "D1")
	set(t, s, "A1", 4.0)
	shows(t, s, "D1", 0.0)
	did(t, s, "B1 C1 D1", "A1 B1 C1")
	refused(t, "A1 := =C1", s, puts("A1", "=C1"), 0, api.ErrCycle)
	refused(t, "A1 twice", s, puts("A1", 1.0, "A1", 2.0), 1, api.ErrTwice)
	refused(t, "A0", s, puts(xy(1, 0), 1.0), 0, api.ErrAddr)
	set(t, s, "E1", minus)
	did(t, s, "", "E1")
	shows(t, s, "E1", minus)
	set(t, s, "E1", 0.0)
	did(t, s, "", "E1")
	shows(t, s, "E1", 0.0)
}

// TestSizes: batches of no put, of one, of as many as may be, of one more and of many more.
func TestSizes(t *testing.T) {
	batch := func(count int) []api.Put {
		var l []any
		for i := range count {
			l = append(l, place(i), float64(i))
		}
		return puts(l...)
	}
	for _, count := range []int{0, 1, 2, api.MaxBatch - 1, api.MaxBatch} {
		s := sheetOf(t, "A9", 1.0)
		taken(t, s, batch(count))
		if n := len(s.Cells()); n != count+1 || len(s.Changed()) != count || len(s.Worked()) > 0 {
			t.Errorf("P20.1: behind a batch of %d: %d cells, %d have changed", count, n, len(s.Changed()))
		}
	}
	for _, count := range []int{api.MaxBatch + 1, 2 * api.MaxBatch, 5000} {
		refused(t, fmt.Sprintf("%d puts", count), sheetOf(t, "A9", 1.0, "B9", "=A9"), batch(count), api.MaxBatch, api.ErrMany)
	}
	// Too many are too many, whatever they are.
	for i, p := range []api.Put{{At: xy(0, 1)}, {C: api.Content{Kind: 3}}, {At: cell("A1")}} {
		refused(t, fmt.Sprintf("too many of sort %d", i), live.New(), slices.Repeat([]api.Put{p}, api.MaxBatch+1), api.MaxBatch, api.ErrMany)
	}
}

// TestEmptyBatch: it is taken, and behind it nothing counts as changed.
func TestEmptyBatch(t *testing.T) {
	s := sheetOf(t, "A1", 1.0, "A2", "=A1")
	did(t, s, "A2", "A1 A2")
	for _, batch := range [][]api.Put{nil, {}, make([]api.Put, 0, 9)} {
		set(t, s, "A1", 7.0)
		set(t, s, "A1", 8.0)
		did(t, s, "A2", "A1 A2")
		taken(t, s, batch)
		did(t, s, "", "")
		shows(t, s, "A2", 8.0)
	}
}

// TestPutsThatMayNotBe: each of them as the first, a middle and the last put.
func TestPutsThatMayNotBe(t *testing.T) {
	s := sheetOf(t, "A1", 1.0, "A2", "=A1", "B2", "=SUM(A1:A3)", "C3", "x")
	good := puts("A1", 5.0, "C3", nil, "D4", "=A1", "A3", "=A1+1", "E5", "y")
	with := func(at int, p api.Put) []api.Put { return slices.Insert(slices.Clone(good), at, p) }
	for i := range len(good) + 1 {
		for _, at := range noCells() {
			refused(t, fmt.Sprintf("the cell %v as put %d", at, i), s, with(i, api.Put{At: at, C: content(1.0)}), i, api.ErrAddr)
		}
		refused(t, fmt.Sprintf("Empty into no cell as put %d", i), s, with(i, api.Put{}), i, api.ErrAddr)
		for k, c := range noContents() {
			refused(t, fmt.Sprintf("content %d as put %d", k, i), s, with(i, api.Put{At: cell("F6"), C: c}), i, api.ErrArg)
		}
		for k, p := range good {
			// The later one of both counts.
			for _, x := range []any{p.C, nil, 1.0, "=2"} {
				refused(t, fmt.Sprintf("put %d once more as put %d", k, i), s, with(i, api.Put{At: p.At, C: content(x)}), max(i, k+1), api.ErrTwice)
			}
		}
	}
	taken(t, s, good)
	isWhole(t, "the good ones", s)
}

// TestFirstFault: of several the one of the first put counts, and of one put the cell, then the content, then that it stands twice.
func TestFirstFault(t *testing.T) {
	no, c, one := xy(0, 5), api.Content{Kind: 3}, content(1.0)
	a1, b1 := cell("A1"), cell("B1")
	for i, x := range []struct {
		batch  []api.Put
		number int
		err    api.Errno
	}{
		{[]api.Put{{At: no, C: c}}, 0, api.ErrAddr},
		{[]api.Put{{At: a1, C: c}, {At: no, C: one}}, 0, api.ErrArg},
		{[]api.Put{{At: no, C: one}, {At: a1, C: c}}, 0, api.ErrAddr},
		{[]api.Put{{At: a1, C: one}, {At: a1, C: c}}, 1, api.ErrArg},
		{[]api.Put{{At: a1, C: one}, {At: a1, C: one}, {At: a1, C: c}}, 1, api.ErrTwice},
		{[]api.Put{{At: a1, C: one}, {At: a1, C: one}, {At: no, C: one}}, 1, api.ErrTwice},
		{[]api.Put{{At: a1, C: one}, {At: b1, C: c}, {At: a1, C: one}}, 1, api.ErrArg},
		{[]api.Put{{At: a1, C: one}, {At: b1, C: one}, {At: no, C: c}, {At: a1, C: one}}, 2, api.ErrAddr},
		{[]api.Put{{At: a1, C: one}, {At: b1, C: one}, {At: b1, C: one}, {At: a1, C: one}}, 2, api.ErrTwice},
		{[]api.Put{{At: no, C: one}, {At: no, C: one}}, 0, api.ErrAddr},
		{[]api.Put{{At: a1, C: c}, {At: a1, C: c}}, 0, api.ErrArg},
		// All of these go ahead of a circle.
		{append(puts("A1", "=A1", "B1", "=C1", "C1", "=B1"), api.Put{At: no, C: one}), 3, api.ErrAddr},
		{append(puts("A1", "=A1", "B1", "=C1"), api.Put{At: cell("C1"), C: c}), 2, api.ErrArg},
		{puts("A1", "=A1", "B1", "=C1", "A1", 1.0), 2, api.ErrTwice},
	} {
		for k, s := range []*live.Sheet{live.New(), sheetOf(t, "A1", 3.0, "B1", "=A1"), sheetOf(t, "B1", 3.0, "A1", "=B1")} {
			refused(t, fmt.Sprintf("row %d on sheet %d", i, k), s, x.batch, x.number, x.err)
		}
	}
}

// TestFull: no more than MaxCells cells.
func TestFull(t *testing.T) {
	s := full(t, api.MaxCells, func(i int) any { return float64(i) })
	if n := len(s.Cells()); n != api.MaxCells {
		t.Fatalf("P20.1: %d cells", n)
	}
	beyond := func(i int) api.Addr { return xy(1+i, 1000) }
	// One more, alone and in each place of others that change what is there.
	refused(t, "one more", s, puts(beyond(0), 1.0), 0, api.ErrFull)
	refused(t, "one more formula", s, puts(beyond(0), "=A1"), 0, api.ErrFull)
	for i := range 3 {
		refused(t, "one more among others", s, slices.Insert(puts("A1", "=B1", "C1", "x"), i%3, puts(beyond(0), 1.0)...), 0, api.ErrFull)
	}
	// As many taken out as put in, in whichever order; one more is too many.
	for _, count := range []int{1, 2, 100, 128} {
		var out, in []any
		for i := range count {
			out = append(out, place(i), nil)
			in = append(in, beyond(i), "=SUM(A1:C3)")
		}
		refused(t, "one more than is taken out", s, puts(slices.Concat(in, []any{beyond(count)}, []any{1.0}, out[2:])...), 0, api.ErrFull)
		for k, list := range [][]any{slices.Concat(in, out), slices.Concat(out, in)} {
			o := s.Copy()
			set(t, o, list...)
			if n := len(o.Cells()); n != api.MaxCells {
				t.Errorf("P20.1: %d out, %d in, order %d: %d cells", count, count, k, n)
			}
			refused(t, "full again", o, puts(beyond(count), 1.0), 0, api.ErrFull)
		}
	}
	// Empty into empty cells needs no room and gives none.
	set(t, s, beyond(0), nil, beyond(1), nil)
	refused(t, "one more, and Empty into an empty one", s, puts(beyond(0), nil, beyond(1), 1.0), 0, api.ErrFull)
	// What is there may be put anew.
	set(t, s, "A1", "=B1", "B1", "x", "C1", 3.0)
	shows(t, s, "A1", "x")
	// One taken out makes room for just one.
	set(t, s, "A1", nil)
	refused(t, "two more behind one less", s, puts(beyond(0), 1.0, beyond(1), 1.0), 0, api.ErrFull)
	set(t, s, beyond(0), 1.0)
	refused(t, "full again", s, puts(beyond(1), 1.0), 0, api.ErrFull)
}

// TestFullOfFormulas: formulas and plain cells change places, all cells being taken.
func TestFullOfFormulas(t *testing.T) {
	s := full(t, api.MaxCells, func(i int) any {
		if i < 100 {
			return float64(i)
		}
		return "=" + name(place(i-100))
	})
	var list []any
	for i := range 100 {
		list = append(list, place(i), "="+name(xy(1+i, 4000)), place(i+100), float64(i))
	}
	set(t, s, list...)
	isWhole(t, "changed places", s)
	refused(t, "one more", s, puts("A4000", 1.0), 0, api.ErrFull)
	// A circle beside no room: there is no room.
	refused(t, "one more that hangs on itself", s, puts("A1", "=A1", "A4000", "=A4000"), 0, api.ErrFull)
	refused(t, "a circle in a full sheet", s, puts("B1", 1.0, "A1", "=A1"), 1, api.ErrCycle)
	// The room that Empty makes is there for the puts of its batch, ahead of it or behind.
	set(t, s, "A4000", 1.0, place(4095), nil)
	isWhole(t, "one for another", s)
}

// TestOneOutOfTheOther: a cell is made empty, plain, a formula, each out of each.
func TestOneOutOfTheOther(t *testing.T) {
	kinds := []any{nil, 1.0, 2.0, minus, 0.0, "x", "", "2", true, false, api.FaultDiv, api.FaultNone, "=B1", "=B1+1", "=SUM(C1:C3)", "=1/0", `="x"`, "=D9", inf, math.Float64frombits(theNaN)}
	for _, x := range kinds {
		for _, y := range kinds {
			s := sheetOf(t, "B1", 1.0, "C2", 2.0, "A2", "=A1", "A3", "=SUM(A1:A1)", "A4", `=A1&"!"`)
			set(t, s, "A1", x)
			isWhole(t, "the first one", s)
			one := s.Value(cell("A1"))
			set(t, s, "A1", y)
			isWhole(t, "the second one", s)
			if toldContent(s.Content(cell("A1"))) != toldContent(content(y)) {
				t.Errorf("P20.1: A1 has %s, not %v", toldContent(s.Content(cell("A1"))), y)
			}
			same := toldValue(one) == toldValue(s.Value(cell("A1")))
			if same != !slices.Contains(s.Changed(), cell("A1")) {
				t.Errorf("P20.3: A1 %v, then %v: Changed %s", x, y, names(s.Changed()))
			}
			want := "A2 A3 A4"
			if same {
				want = ""
			}
			if content(y).Kind == api.Formula {
				want = "A1 " + want
			}
			sameCells(t, fmt.Sprintf("P20.3: A1 %v, then %v: Worked", x, y), s.Worked(), cells(want))
		}
	}
}

func TestNil(t *testing.T) {
	var s *live.Sheet
	for _, batch := range [][]api.Put{nil, puts("A1", 1.0), puts(xy(0, 0), 1.0), puts("A1", "=A1"), make([]api.Put, 300)} {
		if n, err := s.Set(batch...); n != 0 || err != api.ErrArg {
			t.Errorf("R1: Set of %d puts of nil: %d, error %d", len(batch), n, err)
		}
	}
	for _, at := range append(noCells(), cells("A1 IV4096")...) {
		if v, c := s.Value(at), s.Content(at); toldValue(v) != toldValue(api.Value{}) || toldContent(c) != toldContent(api.Content{}) || len(s.Users(at)) > 0 {
			t.Errorf("R1: of nil, %v: %v, %v", at, v, c)
		}
	}
	if len(s.Cells()) > 0 || s.Grid() != nil || len(s.Worked()) > 0 || len(s.Changed()) > 0 || s.Copy() != nil {
		t.Error("R1: of nil: something")
	}
}

// TestMadeByHand: a Sheet that New didn't make is an empty one.
func TestMadeByHand(t *testing.T) {
	s := &live.Sheet{}
	sameTold(t, "R1: a Sheet made by hand", toldSheet(s), toldSheet(live.New()))
	sameTold(t, "R1: its Copy", toldSheet(s.Copy()), toldSheet(live.New()))
	refused(t, "a circle", s, puts("A1", "=A1"), 0, api.ErrCycle)
	set(t, s, "A1", 1.0, "A2", "=A1+SUM(A1:A1)")
	shows(t, s, "A2", 2.0)
}
