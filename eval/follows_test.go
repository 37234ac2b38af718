package eval_test

import (
	"fmt"
	"maps"
	"math"
	"slices"
	"strings"
	"testing"

	"quadrille/addr"
	"quadrille/api"
	"quadrille/eval"
	"quadrille/formula"
)

// P16.3: what follows; R3: what is handed in; R4: one answer.

// uses tells whether a formula uses a cell.
func uses(n api.Node, at api.Addr) bool {
	return slices.ContainsFunc(formula.Uses(n), func(a api.Area) bool { return addr.In(a, at) })
}

// come is what a formula that may be comes to.
func come(t *testing.T, n api.Node, s eval.Source) api.Value {
	t.Helper()
	v, err := eval.Eval(n, s)
	if err != api.OK {
		t.Fatalf("P16.3: %+v: %v", n, err)
	}
	return v
}

func TestOtherCellsDontMatter(t *testing.T) {
	m := made(163)
	for i := range 4000 {
		n, s := m.right(), m.source(i%2 == 0)
		want := come(t, n, s)
		changed, least := maps.Clone(s), shows{}
		for at := range addr.Cells(areaAt("A1:F7")) {
			if uses(n, at) {
				least[at] = s[at]
			} else {
				changed[at] = m.value(true)
			}
		}
		about := fmt.Sprintf("formula %d with other cells", i)
		check(t, "P16.3", about, n, changed, want)
		check(t, "P16.3", about, n, least, want)
		if i%2 == 1 {
			check(t, "P16.3", about, n, eval.Of(changed.cells()), want)
			check(t, "P16.3", about, n, eval.Of(least.cells()), want)
		}
		if t.Failed() {
			t.Fatalf("%+v", n)
		}
	}
}

func TestEachOtherCellsChange(t *testing.T) {
	for _, text := range []string{"B2", "B2+C3", "SUM(B2:C3)", "IF(B2,C3,B3)", "COUNTA(B2:B4,D1)", "JOIN(A1:D1)&B2", "IFERROR(B2/C3,D4)"} {
		n := parsed(t, text)
		s := sheet{"B2": 3, "C3": 4, "B3": "x", "D1": true}.shows()
		want := come(t, n, s)
		for at := range addr.Cells(areaAt("A1:E5")) {
			kept := s[at]
			for _, v := range []api.Value{blank, val(9), val("y"), val(absent), val(other), {Kind: 9}} {
				s[at] = v
				if !uses(n, at) {
					check(t, "P16.3", fmt.Sprintf("%s with %v changed", text, at), n, s, want)
					check(t, "P16.3", fmt.Sprintf("%s with %v changed, by a Table", text, at), n, eval.Of(s.cells()), want)
				}
			}
			s[at] = kept
		}
	}
}

func TestFormulasWithoutCells(t *testing.T) {
	everything := func(x any) shows {
		s := shows{}
		for at := range addr.Cells(areaAt("A1:F7")) {
			s[at] = val(x)
		}
		return s
	}
	for _, r := range []row{{"1", 1}, {"1+2*3", 7}, {`"a"&1`, "a1"}, {"1/0", div}, {"NA()", absent}, {"SUM(1,2,3)", 6}, {"IF(1<2,\"y\")", "y"}, {"#REF!", noRef}, {"TRUE", true}, {"2^0.5", math.Sqrt2}} {
		n := parsed(t, r.text)
		for i, s := range []eval.Source{eval.Of(nil), &eval.Table{}, sheet{}, everything(7), everything(div), everything(api.Value{Kind: 9}), forever{}, broken{"x", "x"}, (*holder)(nil)} {
			check(t, "P16.3", fmt.Sprintf("%s by source %d", r.text, i), n, s, val(r.want))
		}
	}
}

func TestSourcesThatShowTheSame(t *testing.T) {
	m := made(164)
	for i := range 2000 {
		n, s := m.right(), m.source(false)
		want := come(t, n, s)
		l := s.cells()
		m.Shuffle(len(l), func(i, j int) { l[i], l[j] = l[j], l[i] })
		for j := range 3 {
			check(t, "P16.3", fmt.Sprintf("formula %d by list %d", i, j), n, eval.Of(l), want)
			check(t, "R4", fmt.Sprintf("formula %d once more", i), n, s, want)
			slices.Reverse(l)
		}
	}
}

// roomy is a formula whose lists have room behind them that holds something; each list, room too, is told to keep.
func roomy(n api.Node, keep func(full []api.Node)) api.Node {
	if n.Args == nil {
		return n
	}
	room := make([]api.Node, 0, len(n.Args)+2)
	for _, a := range n.Args {
		room = append(room, roomy(a, keep))
	}
	n.Args = room
	full := room[:cap(room)]
	for i := len(room); i < len(full); i++ {
		full[i] = api.Node{Kind: 77, S: "spare"}
	}
	keep(full)
	return n
}

func toldNodes(lists [][]api.Node) string {
	var b strings.Builder
	for _, l := range lists {
		for _, n := range l {
			fmt.Fprintf(&b, "%d %d %x %q %v %d %v %v %d; ", n.Kind, n.Op, math.Float64bits(n.X), n.S, n.B, n.F, n.Ref, n.To, len(n.Args))
		}
	}
	return b.String()
}

func TestNodesAndCellsStayAsTheyWere(t *testing.T) {
	m := made(165)
	for i := range 1500 {
		var lists [][]api.Node
		plain, s := m.right(), m.source(true)
		n := roomy(plain, func(full []api.Node) { lists = append(lists, full) })
		cells := append(slices.Clone(s.cells()), api.Cell{At: cellAt("A1"), V: val("spare")})
		given := cells[:len(cells)-1]
		table := eval.Of(given)
		nodesBefore, cellsBefore := toldNodes(lists), toldCells(cells)
		got := come(t, n, table)
		if toldNodes(lists) != nodesBefore || toldCells(cells) != cellsBefore || !formula.Same(n, plain) {
			t.Fatalf("R3: formula %d has changed what it was given", i)
		}
		text := told(got)
		for _, l := range lists {
			for j := range l {
				l[j] = api.Node{Kind: -1, S: "over"}
			}
		}
		for j := range cells {
			cells[j] = api.Cell{V: val("over")}
		}
		if told(got) != text {
			t.Fatalf("R3: formula %d: %s, then %s", i, text, told(got))
		}
		check(t, "R4", fmt.Sprintf("formula %d behind that", i), plain, table, got)
	}
}
