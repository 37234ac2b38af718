package write_test

import (
	"math"
	"math/big"
	"math/rand"
	"slices"
	"strings"
	"testing"

	"quadrille/api"
	"quadrille/formula"
	"quadrille/write"
)

// edge is one of an area's four sides: a number of a column or a row, and its mark.
type edge struct {
	at    int
	fixed bool
}

// gone is an edge moved by so many, as exact numbers have it, and whether it still is one of 1 to most.
func gone(e edge, by, most int) (edge, bool) {
	if e.fixed {
		return e, true
	}
	sum := new(big.Int).Add(big.NewInt(int64(e.at)), big.NewInt(int64(by)))
	if sum.Sign() <= 0 || sum.Cmp(big.NewInt(int64(most))) > 0 {
		return edge{}, false
	}
	return edge{int(sum.Int64()), e.fixed}, true
}

// moved is a formula as P13.2 has it, node by node.
func moved(n api.Node, cols, rows int) api.Node {
	ref := api.Node{Kind: 4, F: 4}
	switch n.Kind {
	case 5:
		c, okCol := gone(edge{n.Ref.Addr.Col, n.Ref.ColFixed}, cols, 256)
		r, okRow := gone(edge{n.Ref.Addr.Row, n.Ref.RowFixed}, rows, 4096)
		if !okCol || !okRow {
			return ref
		}
		return named(fixed(c.at, r.at, c.fixed, r.fixed))
	case 6:
		x, okCol := movedSides([]edge{{n.Ref.Addr.Col, n.Ref.ColFixed}, {n.To.Addr.Col, n.To.ColFixed}}, cols, 256)
		y, okRow := movedSides([]edge{{n.Ref.Addr.Row, n.Ref.RowFixed}, {n.To.Addr.Row, n.To.RowFixed}}, rows, 4096)
		if !okCol || !okRow {
			return ref
		}
		return area(fixed(x[0].at, y[0].at, x[0].fixed, y[0].fixed), fixed(x[1].at, y[1].at, x[1].fixed, y[1].fixed))
	}
	list := make([]api.Node, len(n.Args))
	for i, a := range n.Args {
		list[i] = moved(a, cols, rows)
	}
	n.Args = list
	return n
}

// movedSides are two sides that face each other, moved, the lesser one first.
func movedSides(l []edge, by, most int) ([]edge, bool) {
	all := true
	for i, e := range l {
		next, ok := gone(e, by, most)
		l[i] = next
		all = all && ok
	}
	slices.SortStableFunc(l, func(a, b edge) int { return a.at - b.at })
	return l, all
}

// checkShift holds Shift against a formula; what is handed in stays as it was, and shares no memory with the answer.
func checkShift(t *testing.T, n api.Node, cols, rows int, want api.Node) {
	t.Helper()
	n = roomy(n)
	was := snapshot(n)
	m, err := write.Shift(n, cols, rows)
	if err != api.OK || told(m) != told(want) {
		t.Errorf("P13.2: Shift(%s, %d, %d): %s, %d; not %s", short(told(n)), cols, rows, short(told(m)), err, short(told(want)))
		return
	}
	if formula.Check(m) != api.OK {
		t.Errorf("P13.2: Shift(%s, %d, %d) may not be: %d", short(told(n)), cols, rows, formula.Check(m))
	}
	if snapshot(n) != was {
		t.Errorf("R3: Shift has changed %s", short(was))
	}
	seen := map[*api.Node]bool{}
	for _, l := range slices.Concat(lists(n), lists(m)) {
		for i := range l {
			if seen[&l[i]] {
				t.Errorf("R3: Shift(%s) shares memory", short(was))
			}
			seen[&l[i]] = true
		}
	}
}

// checkMoved holds Shift against the reference.
func checkMoved(t *testing.T, n api.Node, cols, rows int) api.Node {
	t.Helper()
	want := moved(n, cols, rows)
	checkShift(t, n, cols, rows, want)
	return want
}

// checkShiftText holds Shift of a formula's text against another one.
func checkShiftText(t *testing.T, text string, cols, rows int, want string) {
	t.Helper()
	n := read(t, text)
	m, err := write.Shift(n, cols, rows)
	s, _ := write.Text(m)
	if err != api.OK || s != want {
		t.Errorf("P13.2: Shift of %s by %d, %d: %s, %d; not %s", text, cols, rows, s, err, want)
	}
	checkShift(t, n, cols, rows, read(t, want))
}

// The examples of the chapter, and others like them.
func TestShiftExamples(t *testing.T) {
	for _, row := range []struct {
		text       string
		cols, rows int
		want       string
	}{
		{"A1+$A$1+A$1+$A1", 2, 3, "C4+$A$1+C$1+$A4"},
		{"SUM(A1:B2)+A1", -1, 0, "SUM(#REF!)+#REF!"},
		{"SUM($B$2:C3)", -2, -2, "SUM(A1:$B$2)"},
		{"SUM(B$2:$C3)", 3, -2, "SUM($C1:E$2)"},
		{"IV4096", 0, 1, "#REF!"},
		{"IV4096", 1, 0, "#REF!"}, {"IV4096", -255, -4095, "A1"}, {"IV4096", -256, 0, "#REF!"}, {"IV4096", 0, -4096, "#REF!"},
		{"A1", 255, 4095, "IV4096"}, {"A1", 256, 0, "#REF!"}, {"A1", 0, 4096, "#REF!"}, {"A1", -1, 0, "#REF!"}, {"A1", 0, -1, "#REF!"},
		{"$A1", math.MaxInt, 1, "$A2"}, {"A$1", 1, math.MinInt, "B$1"}, {"$A$1", math.MinInt, math.MaxInt, "$A$1"}, {"A1", math.MaxInt, math.MaxInt, "#REF!"}, {"A1", math.MinInt, math.MinInt, "#REF!"}, {"$A1", 0, math.MaxInt, "#REF!"}, {"A$1", math.MinInt, 0, "#REF!"},
		{"sum(A1:B2)", 1, 1, "SUM(B2:C3)"}, {"sum(A1:B2)", 254, 4094, "SUM(IU4095:IV4096)"}, {"sum(A1:B2)", 255, 0, "SUM(#REF!)"}, {"sum(A1:B2)", 0, 4095, "SUM(#REF!)"}, {"sum(B2:C3)", -1, -1, "SUM(A1:B2)"}, {"sum(B2:C3)", -2, 0, "SUM(#REF!)"},
		// One corner alone goes, or passes the other one.
		{"sum($A$1:B2)", 3, 3, "SUM($A$1:E5)"}, {"sum(A1:$B$2)", 1, 1, "SUM(B2:$B$2)"}, {"sum(A1:$B$2)", 2, 2, "SUM($B$2:C3)"}, {"sum(A1:$B$2)", -1, 0, "SUM(#REF!)"}, {"sum($A$1:IV2)", 1, 0, "SUM(#REF!)"}, {"sum($A$1:$B$2)", 9, 9, "SUM($A$1:$B$2)"},
		{"sum(A1:$B9)", 4, 1, "SUM($B2:E10)"}, {"sum(A1:C$4)", 1, 9, "SUM(B$4:D10)"}, {"sum($D5:F$9)", -5, 8, "SUM(A$9:$D13)"},
		// Two of the same column or row stay where they are.
		{"sum(A1:$A$1)", 0, 0, "SUM(A1:$A$1)"}, {"sum($A$1:A1)", 0, 0, "SUM($A$1:A1)"}, {"sum($A$1:A1)", 1, 1, "SUM($A$1:B2)"}, {"sum(A1:$A$1)", 1, 1, "SUM($A$1:B2)"}, {"sum(B2:$C$3)", 1, 1, "SUM(C3:$C$3)"}, {"sum($C$3:D4)", -1, -1, "SUM($C$3:C3)"},
		// What is no cell becomes a fault within others, and no more than that.
		{"-A1%^B2", -1, 0, "-#REF!%^A2"}, {"if(A1<C3,sum(A1:C3,B2:C3,A1),\"A1\")", -1, -1, "IF(#REF!<B2,SUM(#REF!,A1:B2,#REF!),\"A1\")"}, {"(A1+B1)*(A1-1)", -1, 0, "(#REF!+A1)*(#REF!-1)"},
		{"1+2", 1 << 62, -1 << 62, "1+2"}, {"\"A1\"&TRUE&#DIV!", 5, 5, "\"A1\"&TRUE&#DIV!"}, {"na()", math.MinInt, math.MaxInt, "NA()"},
	} {
		checkShiftText(t, row.text, row.cols, row.rows, row.want)
	}
}

// farther are shifts to each limit, one beyond, and far beyond.
func farther(most int) []int {
	l := []int{math.MinInt, math.MinInt + 1, -1 << 32, 1 << 32, 1<<32 - 1, math.MaxInt - 1, math.MaxInt}
	for _, k := range []int{0, 1, 2, most - 2, most - 1, most, most + 1} {
		l = append(l, k, -k)
	}
	return l
}

// P13.2: refs with each of their marks, to each limit and beyond.
func TestShiftRefs(t *testing.T) {
	for _, c := range []int{1, 2, 128, 255, 256} {
		for _, r := range []int{1, 2, 2048, 4095, 4096} {
			for marks := range 4 {
				n := named(fixed(c, r, marks&1 != 0, marks&2 != 0))
				for _, cols := range farther(256) {
					checkMoved(t, n, cols, 0)
					checkMoved(t, n, cols, 1)
					checkMoved(t, n, cols, -1)
				}
				for _, rows := range farther(4096) {
					checkMoved(t, n, 0, rows)
					checkMoved(t, n, 1, rows)
					checkMoved(t, n, -1, rows)
				}
			}
		}
	}
}

// P13.2: areas with each of their marks, to each limit and beyond, past one another by columns, by rows, by both.
func TestShiftAreas(t *testing.T) {
	type span struct{ from, to int }
	cols := []span{{1, 1}, {2, 2}, {2, 4}, {1, 256}, {255, 256}, {128, 130}}
	rows := []span{{1, 1}, {3, 3}, {2, 5}, {1, 4096}, {4095, 4096}}
	short := []int{-4, -3, -2, -1, 0, 1, 2, 3, 4}
	for marks := range 16 {
		a, b, c, d := marks&1 != 0, marks&2 != 0, marks&4 != 0, marks&8 != 0
		for _, x := range cols {
			for _, y := range rows {
				n := call("SUM", area(fixed(x.from, y.from, a, b), fixed(x.to, y.to, c, d)))
				for _, by := range short {
					for _, down := range short {
						checkMoved(t, n, by, down)
					}
				}
				for _, by := range farther(256) {
					checkMoved(t, n, by, 0)
					checkMoved(t, n, by, -1)
				}
				for _, down := range farther(4096) {
					checkMoved(t, n, 0, down)
					checkMoved(t, n, 1, down)
				}
			}
		}
	}
}

// P13.2: what becomes a fault, at the top and at each place of others.
func TestShiftFaults(t *testing.T) {
	lost, kept, none := ref(1, 1), named(fixed(1, 1, true, true)), fault(4)
	checkShift(t, lost, -1, 0, none)
	checkShift(t, kept, -1, 0, kept)
	for op := 1; op <= 3; op++ {
		checkShift(t, un(op, lost), 0, -1, un(op, none))
		checkShift(t, un(op, kept), 0, -1, un(op, kept))
	}
	for op := 4; op <= 15; op++ {
		checkShift(t, bin(op, lost, kept), -1, 0, bin(op, none, kept))
		checkShift(t, bin(op, kept, lost), -1, 0, bin(op, kept, none))
		checkShift(t, bin(op, lost, bin(op, num(1), lost)), -1, 0, bin(op, none, bin(op, num(1), none)))
	}
	wide := area(at(1, 1), fixed(9, 9, true, true))
	for i := range 4 {
		l, want := []api.Node{num(1), txt("A1"), fault(1), kept}, []api.Node{num(1), txt("A1"), fault(1), kept}
		for _, n := range []api.Node{lost, wide, area(fixed(1, 1, true, true), at(256, 9)), area(at(1, 1), at(256, 4096))} {
			l[i], want[i] = n, none
			by := -1
			if n.Ref.ColFixed {
				by = 1
			}
			checkShift(t, call("SUM", l...), by, 0, call("SUM", want...))
			checkShift(t, un(2, call("ABS", call("MAX", l...))), by, 0, un(2, call("ABS", call("MAX", want...))))
		}
	}
	// Faults that stand there already stay as they are.
	for f := 1; f <= 5; f++ {
		checkShift(t, bin(4, fault(f), lost), -1, 0, bin(4, fault(f), none))
	}
	// The greatest and the deepest formula.
	checkShift(t, call("SUM", slices.Repeat([]api.Node{lost}, 255)...), -1, 0, call("SUM", slices.Repeat([]api.Node{none}, 255)...))
	checkShift(t, chain(lost, 31), 0, -1, chain(none, 31))
	checkShift(t, chain(lost, 31), 2, 3, chain(ref(3, 4), 31))
}

// P13.2, R3: lists that stand at two places are two; whichever is written over, the other one stays.
func TestShiftMemory(t *testing.T) {
	shared := []api.Node{ref(1, 1), num(2)}
	n := bin(4, call("SUM", shared...), call("MAX", shared...))
	m, err := write.Shift(n, 1, 1)
	if err != api.OK || told(m) != told(bin(4, call("SUM", ref(2, 2), num(2)), call("MAX", ref(2, 2), num(2)))) || told(n) != told(bin(4, call("SUM", ref(1, 1), num(2)), call("MAX", ref(1, 1), num(2)))) {
		t.Errorf("P13.2: of a list that stands at two places: %s, %d", told(m), err)
	}
	m.Args[0].Args[0] = num(9)
	if told(m.Args[1]) != told(call("MAX", ref(2, 2), num(2))) || told(shared[0]) != told(ref(1, 1)) {
		t.Error("R3: lists of an answer share memory")
	}
	for _, text := range []string{"SUM(A1:$B$2,-C3,NA())%", "1+2*3", "IF(A1,\"x\",TRUE)", "A1"} {
		for _, by := range []int{0, 1, -1} {
			n := roomy(read(t, text))
			m, _ := write.Shift(n, by, by)
			want := told(m)
			writeOver(n)
			if told(m) != want {
				t.Errorf("R3: Shift of %s hangs on what was handed in", text)
			}
			n = roomy(read(t, text))
			was := snapshot(n)
			m, _ = write.Shift(n, by, by)
			writeOver(m)
			if snapshot(n) != was {
				t.Errorf("R3: what was handed in hangs on Shift of %s", text)
			}
			if m, _ = write.Shift(n, by, by); told(m) != want {
				t.Errorf("R4: Shift of %s again: %s", text, told(m))
			}
		}
	}
}

// alike is a formula, the marks of two corners of one column told in one order, and those of one row.
func alike(n api.Node) api.Node {
	if n.Kind == 6 && n.Ref.Addr.Col == n.To.Addr.Col && n.Ref.ColFixed {
		n.Ref.ColFixed, n.To.ColFixed = n.To.ColFixed, n.Ref.ColFixed
	}
	if n.Kind == 6 && n.Ref.Addr.Row == n.To.Addr.Row && n.Ref.RowFixed {
		n.Ref.RowFixed, n.To.RowFixed = n.To.RowFixed, n.Ref.RowFixed
	}
	list := make([]api.Node, len(n.Args))
	for i, a := range n.Args {
		list[i] = alike(a)
	}
	n.Args = list
	return n
}

// faults are how many faults of no cell a formula has.
func faults(n api.Node) int {
	count := 0
	for m := range formula.Nodes(n) {
		if m.Kind == 4 && m.F == 4 {
			count++
		}
	}
	return count
}

// namesCells tells whether a formula has refs or areas.
func namesCells(n api.Node) bool { return len(formula.Uses(n)) > 0 }

// P13.2, P13.4: many formulas that came by chance.
func TestShiftAtRandom(t *testing.T) {
	r := rand.New(rand.NewSource(132))
	back, none, lost := 0, 0, 0
	steps := func(most int) int {
		l := farther(most)
		if r.Intn(2) == 0 {
			return r.Intn(7) - 3
		}
		return l[r.Intn(len(l))]
	}
	for range 20000 {
		n := randomFormula(r, 1+r.Intn(6))
		if formula.Check(n) != api.OK {
			continue
		}
		if m, err := write.Shift(n, 0, 0); err != api.OK || !formula.Same(m, n) {
			t.Errorf("P13.4: Shift(%s, 0, 0): %s, %d", told(n), told(m), err)
		}
		cols, rows := steps(256), steps(4096)
		there := checkMoved(t, n, cols, rows)
		if !namesCells(n) {
			none++
			if m, _ := write.Shift(n, cols, rows); !formula.Same(m, n) {
				t.Errorf("P13.4: Shift(%s, %d, %d): %s", told(n), cols, rows, told(m))
			}
		}
		if faults(there) != faults(n) {
			lost++
			continue
		}
		back++
		checkBack(t, n, cols, rows)
	}
	if back < 5000 || none < 2000 || lost < 2000 {
		t.Errorf("%d there and back, %d without cells, %d lost", back, none, lost)
	}
}

// checkBack checks that a formula without a new fault is itself again, shifted there and back.
func checkBack(t *testing.T, n api.Node, cols, rows int) {
	t.Helper()
	there, err := write.Shift(n, cols, rows)
	again, errBack := write.Shift(there, -cols, -rows)
	if err != api.OK || errBack != api.OK || !formula.Same(alike(again), alike(n)) {
		t.Errorf("P13.4: %s by %d, %d and back: %s", short(told(n)), cols, rows, short(told(again)))
	}
}

// P13.4: there and back, of areas with each of their marks, and of what no shift changes.
func TestThereAndBack(t *testing.T) {
	for marks := range 16 {
		a, b, c, d := marks&1 != 0, marks&2 != 0, marks&4 != 0, marks&8 != 0
		for _, to := range [][2]int{{5, 5}, {5, 8}, {8, 5}, {7, 9}} {
			n := call("SUM", area(fixed(5, 5, a, b), fixed(to[0], to[1], c, d)))
			for cols := -4; cols <= 5; cols++ {
				for rows := -4; rows <= 5; rows++ {
					checkBack(t, n, cols, rows)
				}
			}
		}
	}
	for _, text := range []string{"1", "\"A1:B2\"", "TRUE", "#REF!", "-1%", "1+2^-3", "SUM(1,\"$A$1\",NA())", "IF(1=2,#REF!,#DIV!)", strings.Repeat("-", 31) + "1"} {
		n := read(t, text)
		for _, cols := range farther(256) {
			for _, rows := range farther(4096) {
				if m, err := write.Shift(n, cols, rows); err != api.OK || !formula.Same(m, n) {
					t.Errorf("P13.4: Shift of %s by %d, %d: %s, %d", text, cols, rows, told(m), err)
				}
			}
		}
	}
	// What is fixed in both ways stays, however far.
	n := read(t, "SUM($A$1:$B$2)+$C$3")
	for _, by := range farther(256) {
		if m, err := write.Shift(n, by, by); err != api.OK || !formula.Same(m, n) {
			t.Errorf("P13.4: Shift of what is fixed by %d: %s, %d", by, told(m), err)
		}
	}
}
