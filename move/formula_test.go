package move_test

import (
	"fmt"
	"math"
	"slices"
	"strings"
	"testing"

	"quadrille/api"
	"quadrille/formula"
	"quadrille/move"
	"quadrille/write"
)

// P22.1: Formula.

// turned is a formula whose columns are another one's rows, and the other way round.
func turned(n api.Node) api.Node {
	for _, r := range []*api.Ref{&n.Ref, &n.To} {
		r.Addr.Col, r.Addr.Row = r.Addr.Row, r.Addr.Col
		r.ColFixed, r.RowFixed = r.RowFixed, r.ColFixed
	}
	n.Args = slices.Clone(n.Args)
	for i, a := range n.Args {
		n.Args[i] = turned(a)
	}
	return n
}

// goes holds Formula against a formula.
func goes(t testing.TB, n api.Node, cols bool, at, count int, want api.Node) {
	t.Helper()
	m, err := move.Formula(n, cols, at, count)
	if err != api.OK || toldNode(m) != toldNode(want) {
		got, _ := write.Text(m)
		due, _ := write.Text(want)
		t.Errorf("P22.1: Formula(cols %v, %d, %d): %s, error %d, not %s", cols, at, count, short(got), err, short(due))
	}
	if err := formula.Check(m); err != api.OK {
		t.Errorf("P22.1: Formula(cols %v, %d, %d) may not be: %d", cols, at, count, err)
	}
}

// TestFormula: rows, and columns likewise.
func TestFormula(t *testing.T) {
	for _, c := range []struct {
		text      string
		at, count int
		want      string
	}{
		// ahead of the lines, at them, behind them
		{"A1+A2+A3+A4", 3, 2, "A1+A2+A5+A6"}, {"A1+A2+A3+A4", 3, 0, "A1+A2+A3+A4"}, {"A1+A2+A3+A4", 1, 1, "A2+A3+A4+A5"},
		{"A1+A2+A3+A4+A5", 3, -2, "A1+A2+#REF!+#REF!+A3"}, {"A1+A2+A3", 1, -1, "#REF!+A1+A2"}, {"A1+A2+A3", 3, -1, "A1+A2+#REF!"}, {"A1+A2+A3", 4, -9, "A1+A2+A3"},
		// areas grow and shrink
		{"SUM(A2:A4)", 1, 1, "SUM(A3:A5)"}, {"SUM(A2:A4)", 2, 1, "SUM(A3:A5)"}, {"SUM(A2:A4)", 3, 1, "SUM(A2:A5)"}, {"SUM(A2:A4)", 4, 3, "SUM(A2:A7)"}, {"SUM(A2:A4)", 5, 1, "SUM(A2:A4)"},
		{"SUM(A2:A4)", 1, -1, "SUM(A1:A3)"}, {"SUM(A2:A4)", 1, -2, "SUM(A1:A2)"}, {"SUM(A2:A4)", 1, -3, "SUM(A1:A1)"}, {"SUM(A2:A4)", 1, -4, "SUM(#REF!)"},
		{"SUM(A2:A4)", 2, -1, "SUM(A2:A3)"}, {"SUM(A2:A4)", 2, -2, "SUM(A2:A2)"}, {"SUM(A2:A4)", 2, -3, "SUM(#REF!)"}, {"SUM(A2:A4)", 2, -4, "SUM(#REF!)"},
		{"SUM(A2:A4)", 3, -1, "SUM(A2:A3)"}, {"SUM(A2:A4)", 3, -2, "SUM(A2:A2)"}, {"SUM(A2:A4)", 3, -9, "SUM(A2:A2)"}, {"SUM(A2:A4)", 4, -1, "SUM(A2:A3)"}, {"SUM(A2:A4)", 5, -1, "SUM(A2:A4)"},
		{"SUM(A3:A3)", 3, 1, "SUM(A4:A4)"}, {"SUM(A3:A3)", 4, 1, "SUM(A3:A3)"}, {"SUM(A3:A3)", 3, -1, "SUM(#REF!)"}, {"SUM(A3:A3)", 2, -1, "SUM(A2:A2)"}, {"SUM(A3:A3)", 4, -1, "SUM(A3:A3)"},
		// marks don't count, and stay
		{"$A$3+$A3+A$3+A3", 2, 2, "$A$5+$A5+A$5+A5"}, {"$A$3+$A3+A$3+A3", 3, -1, "#REF!+#REF!+#REF!+#REF!"}, {"$A$3+$A3+A$3+A3", 1, -2, "$A$1+$A1+A$1+A1"},
		{"SUM($A1:B$3,A$1:$B3,$A$1:B3,A1:$B$3)", 2, 1, "SUM($A1:B$4,A$1:$B4,$A$1:B4,A1:$B$4)"}, {"SUM($A1:B$3,A$1:$B3,$A$1:B3,A1:$B$3)", 3, -1, "SUM($A1:B$2,A$1:$B2,$A$1:B2,A1:$B$2)"},
		{"SUM($A1:B$3,A$1:$B3,$A$1:B3,A1:$B$3)", 1, -2, "SUM($A1:B$1,A$1:$B1,$A$1:B1,A1:$B$1)"}, {"SUM($B$2:B2,A3:$A$3)", 1, 1, "SUM($B$3:B3,A4:$A$4)"},
		// what is lost within calls, and beside other nodes
		{`IF(A1>1,SUM(A2:A3,B2,7),"A2"&-A2%)`, 2, -2, `IF(A1>1,SUM(#REF!,#REF!,7),"A2"&-#REF!%)`}, {"SUM(MAX(A1:C1),MIN(A2:C2),COUNT(A3:C3))", 2, -1, "SUM(MAX(A1:C1),MIN(#REF!),COUNT(A2:C2))"},
		{`NA()+#DIV!+TRUE+1.5+"x"`, 1, -9, `NA()+#DIV!+TRUE+1.5+"x"`}, {"#REF!+SUM(#REF!)", 1, 1, "#REF!+SUM(#REF!)"}, {"7", 1, 5, "7"}, {"C9", 9, -1, "#REF!"}, {"C9", 9, 1, "C10"},
		// the other lines don't count
		{"B1+C1+SUM(B1:D1)", 2, 1, "B1+C1+SUM(B1:D1)"}, {"B1+C1+SUM(B1:D1)", 2, -9, "B1+C1+SUM(B1:D1)"},
	} {
		goes(t, tree(c.text), false, c.at, c.count, tree(c.want))
		goes(t, turned(tree(c.text)), true, c.at, c.count, turned(tree(c.want)))
	}
}

// TestFormulaAtTheLastLine: what is there falls off, or is brought back.
func TestFormulaAtTheLastLine(t *testing.T) {
	for _, c := range []struct {
		cols      bool
		text      string
		at, count int
		want      string
	}{
		{false, "SUM(A1:A4096)+A4096", 2, 1, "SUM(A1:A4096)+#REF!"}, {false, "SUM(A1:A4096)+A4096", 4096, -1, "SUM(A1:A4095)+#REF!"},
		{false, "A4095+A$4096", 1, 1, "A4096+#REF!"}, {false, "A4095+A4096", 4096, 1, "A4095+#REF!"}, {false, "A4095+A4096", 4096, 4096, "A4095+#REF!"}, {false, "A4095+A4096", 4095, 1, "A4096+#REF!"}, {false, "A4095+A4096", 4095, 2, "#REF!+#REF!"},
		{false, "A1+A2+A4096", 1, 4095, "A4096+#REF!+#REF!"}, {false, "A1+A2+A4096", 1, 4096, "#REF!+#REF!+#REF!"}, {false, "A1+A2+A4096", 2, 4096, "A1+#REF!+#REF!"}, {false, "A1+A2+A4096", 2, 4094, "A1+A4096+#REF!"},
		{false, "A1+A2+A4096", 1, -4095, "#REF!+#REF!+A1"}, {false, "A1+A2+A4096", 1, -4096, "#REF!+#REF!+#REF!"}, {false, "A1+A2+A4096", 2, -4094, "A1+#REF!+A2"}, {false, "A1+A2+A4096", 2, -4096, "A1+#REF!+#REF!"}, {false, "A1+A2+A4096", 4096, -4096, "A1+A2+#REF!"},
		{false, "SUM(A4095:A4096)", 1, 1, "SUM(A4096:A4096)"}, {false, "SUM(A4095:A4096)", 1, 2, "SUM(#REF!)"}, {false, "SUM(A4095:A4096)", 4096, 1, "SUM(A4095:A4095)"}, {false, "SUM(A4095:$A$4096)", 4095, 1, "SUM(A4096:$A$4096)"}, {false, "SUM(A4096:A4096)", 4096, 1, "SUM(#REF!)"},
		{false, "SUM(A1:A4096)", 1, 4095, "SUM(A4096:A4096)"}, {false, "SUM(A1:A4096)", 1, 4096, "SUM(#REF!)"}, {false, "SUM(A1:A4096)", 2, 4095, "SUM(A1:A1)"}, {false, "SUM(A1:A4096)", 2, 4096, "SUM(A1:A1)"}, {false, "SUM(A1:A4096)", 2, 4094, "SUM(A1:A4096)"},
		{false, "SUM(A1:A4096)", 4000, 96, "SUM(A1:A4096)"}, {false, "SUM(A1:A4096)", 4000, 97, "SUM(A1:A3999)"}, {false, "SUM(A1:A4001)", 4000, 95, "SUM(A1:A4096)"}, {false, "SUM(A1:A4001)", 4000, 94, "SUM(A1:A4095)"},
		{false, "SUM(A1:A4096)", 1, -4095, "SUM(A1:A1)"}, {false, "SUM(A1:A4096)", 2, -4096, "SUM(A1:A1)"}, {false, "SUM(A1:A4096)", 1, -4096, "SUM(#REF!)"}, {false, "SUM(A1:IV4096)", 3, -4, "SUM(A1:IV4092)"},
		{true, "SUM(A1:IV1)+IV1+IU1", 2, 1, "SUM(A1:IV1)+#REF!+IV1"}, {true, "SUM(A1:IV1)+IV1+IU1", 256, -1, "SUM(A1:IU1)+#REF!+IU1"}, {true, "SUM(A1:IV1)+IV1+IU1", 256, 256, "SUM(A1:IU1)+#REF!+IU1"}, {true, "SUM($A$1:$IV$1)+$IV$1", 1, 255, "SUM($IV$1:$IV$1)+#REF!"},
		{true, "SUM(A1:IV4096)+IV4096", 1, -255, "SUM(A1:A4096)+A4096"}, {true, "SUM(A1:IV4096)+IV4096", 1, -256, "SUM(#REF!)+#REF!"}, {true, "SUM(A1:IV4096)", 1, 256, "SUM(#REF!)"}, {true, "SUM(A1:IV4096)", 200, 57, "SUM(A1:GQ4096)"},
	} {
		goes(t, tree(c.text), c.cols, c.at, c.count, tree(c.want))
	}
}

// TestFormulaAnywhere: refs and areas of all marks at lines of interest, against lines laid out one by one.
func TestFormulaAnywhere(t *testing.T) {
	for _, cols := range []bool{false, true} {
		most := map[bool]int{false: api.MaxRow, true: api.MaxCol}[cols]
		list := []int{1, 2, 3, 4, 7, 8, 9, 100, most - 8, most - 7, most - 3, most - 2, most - 1, most}
		for i, at := range list {
			for _, count := range []int{0, 1, 2, 3, 5, 93, most - 100, most - 8, most - 2, most - 1, most} {
				for _, sign := range []int{1, -1} {
					where := lineUp(at, sign*count, most)
					n := everywhere(cols, list, i+count)
					goes(t, n, cols, at, sign*count, goneAlong(n, cols, where))
				}
			}
		}
	}
}

// everywhere is a formula that names each of some lines, and each area between two of them. Marks change from one to the next.
func everywhere(cols bool, lines []int, marks int) api.Node {
	ref := func(line int) api.Ref {
		marks++
		at := xy(7, line)
		if cols {
			at = xy(line, 7)
		}
		return api.Ref{Addr: at, ColFixed: marks%2 == 0, RowFixed: marks%4 < 2}
	}
	sum := call("SUM")
	for i, from := range lines {
		sum.Args = append(sum.Args, api.Node{Kind: api.NodeRef, Ref: ref(from)})
		for _, to := range lines[i:] {
			sum.Args = append(sum.Args, api.Node{Kind: api.NodeArea, Ref: ref(from), To: ref(to)})
		}
		marks++
	}
	return sum
}

// TestFormulaBounds: as many nodes, as deep as may be.
func TestFormulaBounds(t *testing.T) {
	many := call("SUM")
	for i := range api.MaxNodes - 1 {
		many.Args = append(many.Args, tree(fmt.Sprintf("SUM(A%d:B%d)", i+1, i+2)).Args[0])
	}
	want := formula.Copy(many)
	for i := range want.Args {
		want.Args[i] = tree(fmt.Sprintf("SUM(A%d:B%d)", i+11, i+12)).Args[0]
	}
	goes(t, many, false, 1, 10, want)
	goes(t, want, false, 1, -10, many)
	for i := range want.Args {
		want.Args[i] = tree("#REF!")
	}
	goes(t, many, false, 1, -4096, want)
	for _, text := range []string{"C3", "SUM(B2:C3)"} {
		n := tree(text)
		above := api.MaxDeep - 1 - strings.Count(text, "(")
		goes(t, chain(n, above), false, 3, 1, chain(tree(strings.ReplaceAll(text, "C3", "C4")), above))
		goes(t, chain(n, above), true, 2, -2, chain(tree(strings.NewReplacer("C3", "#REF!", "B2:C3", "#REF!").Replace(text)), above))
	}
}

// TestFormulaRefused: Check's errors go ahead of all, then those of the line and of the count; beside them there is no node.
func TestFormulaRefused(t *testing.T) {
	refused := func(n api.Node, cols bool, at, count int, want api.Errno) {
		t.Helper()
		m, err := move.Formula(n, cols, at, count)
		if err != want || toldNode(m) != toldNode(api.Node{}) {
			t.Errorf("P22.1: Formula(%s, %v, %d, %d): %s, error %d, not %d", short(toldNode(formula.Copy(api.Node{Kind: n.Kind}))), cols, at, count, short(toldNode(m)), err, want)
		}
	}
	for _, n := range noFormulas() {
		want := formula.Check(n)
		if want == api.OK {
			t.Fatal("a formula that may be")
		}
		for _, cols := range []bool{false, true} {
			for _, at := range []int{1, 0, 5000, math.MinInt} {
				for _, count := range []int{1, 0, -1, 5000, math.MaxInt} {
					refused(n, cols, at, count, want)
				}
			}
		}
	}
	for _, n := range []api.Node{tree("7"), tree("A1"), tree("SUM(A1:B2)")} {
		for _, at := range noNumbers() {
			refused(n, false, at, 0, api.ErrArg)
			refused(n, true, at, 1, api.ErrArg)
		}
		refused(n, true, 257, 0, api.ErrArg)
		refused(n, true, 4096, -1, api.ErrArg)
		for _, count := range []int{math.MinInt, math.MinInt + 1, -1 << 32, -4097, 4097, 1 << 32, math.MaxInt} {
			refused(n, false, 1, count, api.ErrArg)
			refused(n, true, 1, count, api.ErrArg)
			refused(n, true, 0, count, api.ErrArg)
		}
		refused(n, true, 1, 257, api.ErrArg)
		refused(n, true, 256, -257, api.ErrArg)
	}
	for _, cols := range []bool{false, true} {
		most := map[bool]int{false: 4096, true: 256}[cols]
		for _, at := range []int{1, most} {
			for _, count := range []int{0, most, -most} {
				goes(t, tree("7%"), cols, at, count, tree("7%"))
			}
		}
	}
}
