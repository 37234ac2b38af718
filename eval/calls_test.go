package eval_test

import (
	"fmt"
	"iter"
	"slices"
	"strings"
	"testing"

	"quadrille/addr"
	"quadrille/api"
	"quadrille/calls"
	"quadrille/eval"
	"quadrille/formula"
)

// P16.1: calls, of values and of areas.

func TestCallsOfCellsFormulasAndAreas(t *testing.T) {
	s := sheet{
		"A1": 1, "A2": 2, "A3": 3, "A4": 2, "B1": "x", "B2": "12", "B3": true, "B4": 5, "C1": div, "C2": 7, "C3": "TRUE", "C4": other,
		"D1": 1e16, "D2": 1, "D3": -1e16, "E1": minus, "E2": 0, "F1": 2.5, "F2": -2.5, "G1": "ä€b", "H1": "f2", "H2": ">=",
	}
	checkRows(t, "P16.1", s, []row{
		{"SUM(A1:A4)", 8}, {"SUM(A1:B4)", 13}, {"SUM(A1:A4,10,B2,B3)", 31}, {"SUM(A1:C4)", div}, {"SUM(B1)", noVal}, {"SUM(B1:B1)", 0}, {"SUM(B2)", 12}, {"SUM(B2:B2)", 0}, {"SUM(D1:D3)", 1}, {"SUM(D1,D2,D3)", 1}, {"D1+D2+D3", 0}, {"SUM(A1:A2,1/0,C1)", div}, {"SUM(A1+1,A2*2)", 6}, {"SUM(Z1:Z9)", 0}, {"SUM(C4:C4)", nan}, {"SUM(E1:E1)", minus}, {"SUM(E1:E2)", 0},
		{"SUMSQ(A1:A3)", 14}, {"AVERAGE(A1:A4)", 2}, {"AVERAGE(Z1:Z9)", div}, {"VAR(A1:A3)", 1}, {"VARP(A1:A4)", 0.5}, {"STDEV(A1:A3)", 1}, {"STDEVP(A1,A1+2)", 1}, {"VAR(A1)", div},
		{"MIN(A1:B4)", 1}, {"MAX(A1:B4)", 5}, {"MIN(E1:E2)", minus}, {"MAX(E1:E2)", 0}, {"MIN(Z1:Z9)", 0}, {"MEDIAN(A1:A4)", 2}, {"MEDIAN(A1:A2)", 1.5}, {"MEDIAN(Z1:Z1)", noNum}, {"MODE(A1:A4)", 2}, {"MODE(A1:A3)", absent},
		{"COUNT(A1:C4)", 7}, {"COUNTA(A1:C4)", 12}, {"COUNT(A1:D9,B2,C1,Z9)", 10}, {"COUNTA(A1:Z9,C1,Z9)", 23}, {"COUNTA(Z1:Z9)", 0},
		{"AND(A1:B3)", true}, {"AND(A1:A3,E1:E1)", false}, {"OR(E1:E2)", false}, {"OR(E1:E2,B3)", true}, {"AND(B1:B2)", noVal}, {"AND(B1)", noVal}, {"AND(C3)", true}, {"AND(C3:C3)", noVal}, {"OR(C2:C4)", noNum}, {"OR(C1:C4)", div},
		{"JOIN(A1:B3)", "1x2123TRUE"}, {`JOIN(A1,"-",B1:B2,Z9)`, "1-x12"}, {"JOIN(C1:C4)", div}, {"JOIN(Z1:Z9)", ""},
		{"SUMPRODUCT(A1:A3,A2:A4)", 14}, {"SUMPRODUCT(A1:A3,A1:A2)", noVal}, {"SUMPRODUCT(A2,A3)", 6}, {"SMALL(A1:A4,2)", 2}, {"LARGE(A1:A4,1)", 3}, {"LARGE(A1:A4,A1+3)", 1}, {"SMALL(A1:A4,5)", noNum}, {"PERCENTILE(A1:A3,50%)", 2}, {"PERCENTILE(A1:A3,2)", noNum},
		{"RANK(A3,A1:A4)", 1}, {"RANK(A3,A1:A4,1)", 4}, {"RANK(9,A1:A4)", absent}, {`COUNTIF(A1:A4,">=",2)`, 3}, {"COUNTIF(A1:A4,H2,A2)", 3}, {`COUNTIF(A1:A4,"!",2)`, noVal},
		{"ABS(-A1)", 1}, {"ABS(E1)", 0}, {"SIGN(F2)", -1}, {"INT(F2)", -3}, {"TRUNC(F2)", -2}, {"ROUND(F1,0)", 3}, {"ROUNDEVEN(F1,0)", 2}, {"ROUNDDOWN(F2,0)", -2}, {"ROUNDUP(F2,0)", -3}, {"ROUND(2.675,2)", 2.67}, {"MOD(-5,A3)", 1}, {"MOD(A1,E1)", div}, {"POWER(A2,10)", 1024}, {"SQRT(A2*A4)", 2}, {"SQRT(-A1)", noNum}, {"FUSED(A2,A3,A4)", 8}, {"SINGLE(0.1)", 0.10000000149011612}, {"SINGLE(1e300)", noNum},
		{"IF(A1,A2,A3)", 2}, {"IF(E1,A2,A3)", 3}, {"IF(E1,A2)", false}, {"IF(B1,1,2)", noVal}, {"IF(B3,B1)", "x"}, {"IFERROR(C1,A1)", 1}, {"IFERROR(A1,C1)", 1}, {"IFERROR(C1,1/0)", div}, {"IFERROR(A1/0,B1)", "x"}, {"CHOOSE(A2,A1,B1,C1)", "x"}, {"CHOOSE(A3,A1,B1,C1)", div}, {"CHOOSE(9,A1)", noVal},
		{"NOT(A1)", false}, {"NA()", absent}, {"ISBLANK(Z9)", true}, {"ISBLANK(A1)", false}, {"ISERROR(C1)", true}, {"ISERROR(1/0)", true}, {"ISERROR(A1)", false}, {"ISNUMBER(A1)", true}, {"ISNUMBER(B2)", false}, {"ISTEXT(B2)", true}, {"ISTEXT(A1&1)", true},
		{"EXACT(A2,A4)", true}, {"EXACT(E1,E2)", false}, {"EXACT(C4,C4)", true}, {"LEN(G1)", 3}, {"LEFT(G1,2)", "ä€"}, {"RIGHT(G1,1)", "b"}, {"MID(G1,2,9)", "€b"}, {"REPT(G1,2)", "ä€bä€b"}, {"REPT(G1,A1-2)", noVal}, {"TEXT(2/3,H1)", "0.67"}, {`TEXT(2/3,"q2")`, "2/3"}, {"VALUE(B2)", 12}, {"VALUE(B1)", noVal},
		{"SUM(IF(TRUE,A1:A4))", noVal}, {"SUM(SUM(A1:A4),SUM(A1:A4))", 16}, {"sum($A$1:a$4)", 8}, {"SUM(A4:A1)", 8},
	})
}

// kindsOf are arguments by each way of naming the cell A1: itself, a formula of it, areas that have it.
func kindsOf() []api.Node {
	return []api.Node{ref("A1"), number(2), one(1, ref("A1")), two(9, ref("A1"), text("")), called("IF", truth(true), ref("A1")), area("A1"), area("A1:B2"), area("C1:D2")}
}

func TestEachFunctionWithEachKindOfArgument(t *testing.T) {
	for _, name := range calls.Names() {
		least, greatest, _ := calls.Takes(name)
		for _, v := range []any{nil, 1, minus, -2.5, other, "x", "2", ">", true, noRef, bad()[0], bad()[9]} {
			s := sheet{"A1": v, "B1": 3, "A2": "y", "B2": true, "D2": 4}.shows()
			for n := least; n <= min(greatest, 3); n++ {
				for _, l := range choices(kindsOf(), n) {
					node := called(name, l...)
					check(t, "P16.1", fmt.Sprintf("%s of %d with A1 %s", name, n, told(val(v))), node, s, last(model(node, s)))
				}
			}
		}
	}
}

// choices are all lists of so many of these.
func choices(of []api.Node, n int) [][]api.Node {
	if n == 0 {
		return [][]api.Node{nil}
	}
	var out [][]api.Node
	for _, l := range choices(of, n-1) {
		for _, x := range of {
			out = append(out, append(slices.Clone(l), x))
		}
	}
	return out
}

func TestAreasWhereNoneMayStand(t *testing.T) {
	s := sheet{"A1": 1, "A2": 2, "B1": true}
	checkRows(t, "P16.1", s, []row{
		{"ABS(A1:A2)", noVal}, {"ABS(A1:A1)", noVal}, {"NOT(B1:B1)", noVal}, {"LEN(A1:A2)", noVal}, {"ISBLANK(Z1:Z9)", noVal}, {"ISERROR(A1:A2)", noVal}, {"ROUND(A1:A2,0)", noVal}, {"ROUND(1.5,A1:A2)", noVal}, {"LARGE(A1:A2,A1:A1)", noVal}, {"RANK(A1:A1,A1:A2)", noVal}, {`COUNTIF(A1:A2,A1:A2,1)`, noVal},
		{"IF(A1:A1,1,2)", noVal}, {"IF(TRUE,A1:A2,2)", noVal}, {"IF(TRUE,1,A1:A2)", 1}, {"IF(FALSE,A1:A2)", false}, {"IFERROR(A1:A2,5)", 5}, {"IFERROR(5,A1:A2)", 5}, {"IFERROR(1/0,A1:A2)", noVal}, {"CHOOSE(1,2,A1:A2)", 2}, {"CHOOSE(2,2,A1:A2)", noVal}, {"CHOOSE(A1:A1,2)", noVal}, {"TEXT(A1:A2,1/0)", noVal}, {"TEXT(1/0,A1:A2)", div},
	})
}

func TestFaultsThatDontCount(t *testing.T) {
	checkRows(t, "P16.1", sheet{"A1": div, "A2": "x", "A3": bad()[8]}, []row{
		{"IF(TRUE,1,A1)", 1}, {"IF(FALSE,A1,2)", 2}, {"IF(FALSE,A1)", false}, {"IF(TRUE,1,1/0)", 1}, {"IF(TRUE,1,A2+1)", 1}, {"IF(TRUE,1,NA())", 1}, {"IF(TRUE,A1,NA())", div}, {"IF(A1,NA(),NA())", div}, {"IF(TRUE,1,A3)", 1}, {"IF(TRUE,1,SUM(A1:A3))", 1},
		{"IFERROR(1,A1)", 1}, {"IFERROR(A1,1)", 1}, {"IFERROR(A1,NA())", absent}, {"IFERROR(A3,3)", 3}, {"IFERROR(A2+1,A2)", "x"}, {"IFERROR(SUM(A1:A3),4)", 4}, {"IFERROR(1,1/0)", 1},
		{"CHOOSE(1,5,A1,A3)", 5}, {"CHOOSE(2,A1,6,1/0)", 6}, {"CHOOSE(3,A1,A2,7)", 7}, {"CHOOSE(2,5,A1)", div}, {"CHOOSE(A1,5,NA())", div},
		{"COUNT(A1,1/0,1,A1:A3)", 1}, {"COUNTA(A1,1/0,1,A1:A3)", 6}, {"ISERROR(A1)", true}, {"ISERROR(A3)", true}, {"ISTEXT(A1)", false}, {"ISTEXT(NA())", false},
	})
}

func TestAreasOfEachValue(t *testing.T) {
	for _, v := range slices.Concat(good(), bad()) {
		s := shows{cellAt("B2"): v, cellAt("A9"): val(5)}
		for _, name := range []string{"SUM", "COUNT", "COUNTA", "AND", "JOIN", "MIN", "MODE", "AVERAGE"} {
			for _, l := range [][]api.Node{{area("B2")}, {area("A1:C3")}, {area("A1:C9")}, {area("C3:D4")}, {area("B2"), area("B2:B2"), ref("B2")}} {
				n := called(name, l...)
				check(t, "P16.1", fmt.Sprintf("%s of areas that show %s", name, told(v)), n, s, last(model(n, s)))
			}
		}
	}
	for _, v := range good() {
		s := shows{cellAt("B2"): v, cellAt("A9"): val(5)}
		for _, name := range []string{"SUM", "COUNTA", "JOIN"} {
			want := last(model(called(name, area("A1:C9")), s))
			check(t, "P16.1", fmt.Sprintf("%s of all cells that show %s", name, told(v)), called(name, area("A1:IV4096")), eval.Of(s.cells()), want)
		}
	}
	for _, v := range bad() {
		check(t, "P16.1", "an area of what may not be", parsed(t, "SUM(A1:C3)"), shows{cellAt("B2"): v}, val(noVal))
		check(t, "P16.1", "an area of what may not be", parsed(t, "COUNTA(A1:C3)"), shows{cellAt("B2"): v}, val(1))
	}
	check(t, "P16.1", "faults in order", parsed(t, "SUM(A1:B2)"), sheet{"B1": noRef, "A2": div}, val(noRef))
	check(t, "P16.1", "faults in order", parsed(t, "SUM(A1:A2,B1:B2)"), sheet{"B1": noRef, "A2": div}, val(div))
	check(t, "P16.1", "what may not be ahead of a fault", parsed(t, "SUM(A1:B2)"), sheet{"B1": api.Value{Kind: 9}, "A2": div}, val(noVal))
	check(t, "P16.1", "what may not be behind a fault", parsed(t, "SUM(A1:B2)"), sheet{"B1": div, "A2": api.Value{Kind: 9}}, val(div))
}

func TestAWholeAreaOfNumbers(t *testing.T) {
	s := shows{}
	for at := range addr.Cells(areaAt("A1:P4096")) {
		s[at] = val(1)
	}
	full := eval.Of(s.cells())
	for _, r := range []row{{"SUM(A1:P4096)", 65536}, {"COUNT(A1:IV4096)", 65536}, {"SUM(A1:IV4096)", 65536}, {"MAX(A1:P4096)", 1}, {"SUM(B2:C3)", 4}, {"SUM(P4096:IV4096)", 1}, {"JOIN(A1:B512)", strings.Repeat("1", 1024)}, {"JOIN(A1:B512,A1)", noVal}} {
		check(t, "P16.1", r.text, parsed(t, r.text), full, val(r.want))
	}
}

// P16.1: sources that don't tell the truth.

// teller is a source whose Each tells a list, whatever it is asked for.
type teller struct {
	list []api.Cell
	ends bool // it goes on behind a false, if it isn't so
}

func (s teller) Cell(at api.Addr) api.Value { return val("cell") }

func (s teller) Each(a api.Area) iter.Seq2[api.Addr, api.Value] {
	return func(yield func(api.Addr, api.Value) bool) {
		for _, c := range s.list {
			if !yield(c.At, c.V) && s.ends {
				return
			}
		}
	}
}

// tells is a teller of values at the cells of a text, or at no cell.
func tells(ats string, l ...any) teller {
	s := teller{ends: true}
	words := strings.Fields(ats)
	for i, x := range l {
		c := api.Cell{V: val(x)}
		if i < len(words) {
			c.At = cellAt(words[i])
		}
		s.list = append(s.list, c)
	}
	return s
}

func TestSourcesThatTellOtherwise(t *testing.T) {
	for _, r := range []struct {
		about, text string
		s           teller
		want        any
	}{
		{"cells outside of the area", "SUM(A1:B2)", tells("C9 IV4096 D4", 1, 2, 4), 7},
		{"what is no cell", "SUM(A1:B2)", tells("", 1, 2, 4), 7},
		{"a cell twice", "SUM(A1:B2)", tells("A1 A1 A1", 1, 2, 4), 7},
		{"another order", "JOIN(A1:B2)", tells("B2 A2 B1 A1", "d", "c", "b", "a"), "dcba"},
		{"another order of faults", "SUM(A1:B2)", tells("B2 A1", noRef, div), noRef},
		{"blanks", "COUNTA(A1:B2)", tells("A1 B1 A2", nil, nil, 5), 1},
		{"blanks alone", "COUNTA(A1:B2)", tells("A1 B1 A2 B2", nil, nil, nil, nil), 0},
		{"blanks, more than the area has cells", "SUM(A1:A2)", tells("A1 B1", nil, nil, nil, nil, 5, nil, nil, 6, nil), 11},
		{"what may not be", "COUNTA(A1:B2)", tells("A1 B1 A2", api.Value{Kind: 9}, api.Value{X: 1}, api.Value{Kind: 2, S: "\xff"}), 3},
		{"what may not be", "SUM(A1:B2)", tells("A1 B1", 1, api.Value{X: minus}), noVal},
		{"what may not be behind a fault", "SUM(A1:B2)", tells("A1 B1", noRef, api.Value{Kind: 9}), noRef},
		{"NaNs", "SUM(A1:B2)", tells("A1 B1", 1, other), nan},
		{"as many as the area has cells", "SUM(A1:B2)", tells("A1 B1 A2 B2", 1, 2, 4, 8), 15},
		{"as many as the area has cells", "SUM(A1:A1)", tells("A1", 1), 1},
		{"one more", "SUM(A1:B2)", tells("A1 B1 A2 B2 A1", 1, 2, 4, 8, 16), noVal},
		{"one more", "SUM(A1:A1)", tells("A1 A2", 1, 2), noVal},
		{"one more, and a fault ahead", "SUM(A1:A1)", tells("A1 A2", div, 2), noVal},
		{"one more, of what counts none", "COUNT(A1:A1)", tells("A1 A2", "x", "y"), noVal},
		{"one more, and what may not be", "COUNTA(A1:A1)", tells("A1 A2", 1, api.Value{Kind: 9}), noVal},
		{"one more, blank", "COUNTA(A1:A1)", tells("A1 A2", 1, nil), 1},
		{"one more, where it isn't told", "IF(TRUE,1,A1:A1)", tells("A1 A2", 1, 2), noVal},
		{"one more, where no area may stand", "IFERROR(A1:A1,3)", tells("A1 A2", 1, 2), noVal},
		{"one more, and a fault of another argument ahead", "SUM(1/0,A1:A1)", tells("A1 A2", 1, 2), noVal},
		{"one more, within another call", "IFERROR(SUM(A1:A1),3)", tells("A1 A2", 1, 2), 3},
		{"one more of one area of two", "SUM(A1:B2,A1:B1)", tells("", 1, 2, 4), noVal},
	} {
		n := parsed(t, r.text)
		check(t, "P16.1", r.about+": "+r.text, n, r.s, val(r.want))
		r.s.ends = false
		check(t, "P16.1", r.about+", by one that goes on: "+r.text, n, r.s, val(r.want))
	}
	check(t, "P16.1", "a cell", parsed(t, "Z9&A1"), tells(""), val("cellcell"))
}

func TestSourcesThatTellFarMore(t *testing.T) {
	var l []any
	for range 100000 {
		l = append(l, 1)
	}
	for _, ends := range []bool{true, false} {
		s := tells("", l...)
		s.ends = ends
		check(t, "P16.1", "far more", parsed(t, "SUM(A1:B2)"), s, val(noVal))
		check(t, "P16.1", "far more", parsed(t, "COUNT(A1:IV4096)"), s, val(100000))
		check(t, "P16.1", "far more", parsed(t, "COUNT(A1:A4096)"), s, val(noVal))
	}
	check(t, "P16.1", "without an end", parsed(t, "SUM(A1:B2)"), forever{}, val(noVal))
	check(t, "P16.1", "without an end", parsed(t, "IFERROR(COUNTA(A1:IV4096),3)"), forever{}, val(3))
}

// forever is a source that tells values as long as it is asked for more.
type forever struct{}

func (forever) Cell(at api.Addr) api.Value { return val(1) }

func (forever) Each(a api.Area) iter.Seq2[api.Addr, api.Value] {
	return func(yield func(api.Addr, api.Value) bool) {
		for yield(a.From, val(true)) {
		}
	}
}

// broken is a source that throws, or whose iterator is nil.
type broken struct{ cell, each any }

func (s broken) Cell(at api.Addr) api.Value {
	if s.cell != nil {
		panic(s.cell)
	}
	return val(1)
}

func (s broken) Each(a api.Area) iter.Seq2[api.Addr, api.Value] {
	if s.each == "later" {
		return func(yield func(api.Addr, api.Value) bool) {
			yield(a.From, val(1))
			panic(s.each)
		}
	}
	if s.each != nil {
		panic(s.each)
	}
	return nil
}

func TestSourcesThatAreBroken(t *testing.T) {
	for _, thrown := range []any{"x", api.OK, api.ErrCycle, fmt.Errorf("x"), 7, "later"} {
		s := broken{thrown, thrown}
		for _, text := range []string{"A1", "1+A1", "SUM(A1:B2)", "IFERROR(A1,1)", "IF(TRUE,1,SUM(A1:A1,2))"} {
			checkError(t, fmt.Sprintf("R1: %s by a source that throws %v", text, thrown), parsed(t, text), s, api.ErrArg)
		}
		check(t, "R1", "a formula without cells", parsed(t, "1+2"), s, val(3))
		checkError(t, "a formula that may not be", called("FOO"), s, api.ErrName)
	}
	checkError(t, "R1: SUM(A1:B2) by a source whose iterator is nil", parsed(t, "SUM(A1:B2)"), broken{}, api.ErrArg)
	check(t, "R1", "A1 by a source whose iterator is nil", parsed(t, "A1"), broken{}, val(1))
	var none *holder
	checkError(t, "R1: A1 by a nil source", parsed(t, "A1"), none, api.ErrArg)
}

// holder is a source that is no source where it is nil.
type holder struct{ v api.Value }

func (h *holder) Cell(at api.Addr) api.Value { return h.v }

func (h *holder) Each(a api.Area) iter.Seq2[api.Addr, api.Value] {
	v := h.v
	return func(yield func(api.Addr, api.Value) bool) { yield(a.From, v) }
}

// inner is a source that works out a formula for each cell that it is asked for.
type inner struct{ n api.Node }

func (s inner) Cell(at api.Addr) api.Value {
	v, _ := eval.Eval(s.n, sheet{"A1": at.Row})
	return v
}

func (s inner) Each(a api.Area) iter.Seq2[api.Addr, api.Value] {
	return func(yield func(api.Addr, api.Value) bool) {
		for at := range addr.Cells(a) {
			if !yield(at, s.Cell(at)) {
				return
			}
		}
	}
}

func TestFormulasWithinSources(t *testing.T) {
	s := inner{parsed(t, "A1*10")}
	check(t, "P16.1", "A3+1", parsed(t, "A3+1"), s, val(31))
	check(t, "P16.1", "SUM(A1:B3)", parsed(t, "SUM(A1:B3)"), s, val(120))
	// A formula that the source can't work out is blank there, and hinders nothing here.
	check(t, "P16.1", "A3+1", parsed(t, "A3+1"), inner{called("FOO")}, val(1))
	if err := formula.Check(s.n); err != api.OK {
		t.Error(err)
	}
}
