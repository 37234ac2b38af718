package formula_test

import (
	"math"
	"math/rand"
	"slices"
	"strings"
	"testing"

	"quadrille/api"
	"quadrille/formula"
)

// odd are nodes of which no two are the same; few are well made.
func odd() []api.Node {
	negative := math.Copysign(0, -1)
	return []api.Node{
		{}, {Kind: -1}, {Kind: 1}, {Kind: 2}, {Kind: 10}, {Op: 1}, {Op: -1}, {Kind: 1, Op: 1},
		{X: negative}, {X: 1}, {X: -1}, {X: math.Inf(1)}, {X: math.Inf(-1)}, {X: math.NaN()}, {X: 0x1p-1074}, num(negative), num(1), num(math.Nextafter(1, 2)), num(math.NaN()),
		{S: "a"}, {S: "A"}, {S: "a\x00"}, {S: "\xff"}, {S: "\xfe"}, {S: "\ufffd"}, {B: true}, {F: 1}, {F: -1},
		{Ref: at(1, 0)}, {Ref: at(0, 1)}, {Ref: fixed(0, 0, true, false)}, {Ref: fixed(0, 0, false, true)}, {Ref: fixed(0, 0, true, true)}, {Ref: at(1, 2)}, {Ref: at(2, 1)},
		{To: at(1, 0)}, {To: at(0, 1)}, {To: fixed(0, 0, true, false)}, {To: fixed(0, 0, false, true)}, {Ref: at(1, 1), To: at(2, 2)}, {Ref: at(2, 2), To: at(1, 1)},
		{Args: []api.Node{{}}}, {Args: []api.Node{{}, {}}}, {Args: []api.Node{{}, {}, {}}}, {Args: []api.Node{{Args: []api.Node{{}}}}}, {Args: []api.Node{{Args: []api.Node{{}}}, {}}}, {Args: []api.Node{{}, {Args: []api.Node{{}}}}},
		{Args: []api.Node{{Kind: 1}}}, {Args: []api.Node{{X: negative}}}, {Args: []api.Node{{X: math.NaN()}}}, {Args: []api.Node{{X: 1}, {X: 2}}}, {Args: []api.Node{{X: 2}, {X: 1}}},
		un(1, num(1)), un(2, num(1)), bin(4, num(1), num(2)), bin(4, num(2), num(1)), bin(4, num(1), bin(4, num(2), num(3))), bin(4, bin(4, num(1), num(2)), num(3)),
		call("SUM", num(1)), call("SUM", num(1), num(1)), call("sum", num(1)), call("SUM"), call(""), ref(1, 1), {Kind: 5, Ref: fixed(1, 1, true, false)}, area(at(1, 1), at(1, 1)), area(at(1, 1), at(2, 2)),
	}
}

// P12.4, P12.5: Same, of each two of these; it is an equality.
func TestSame(t *testing.T) {
	l := odd()
	for i, a := range l {
		for j, b := range l {
			a, b := roomy(a), roomy(b)
			wasA, wasB := snapshot(a), snapshot(b)
			if formula.Same(a, b) != (i == j) {
				t.Errorf("P12.4: Same(%s; %s): %v", told(a), told(b), i != j)
			}
			if snapshot(a) != wasA || snapshot(b) != wasB {
				t.Errorf("R3: Same has changed what it was handed: %s; %s", wasA, wasB)
			}
			for _, f := range []func(api.Node) api.Node{func(n api.Node) api.Node { return un(2, n) }, func(n api.Node) api.Node { return call("IF", num(1), n, txt("x")) }, func(n api.Node) api.Node { return api.Node{Kind: 1, Args: []api.Node{ref(1, 1), n}} }} {
				if formula.Same(f(a), f(b)) != (i == j) {
					t.Errorf("P12.4: Same(%s; %s): %v", told(f(a)), told(f(b)), i != j)
				}
			}
		}
	}
}

// P12.4: all that are no numbers of mathematics are the NaN; no list and an empty one are alike.
func TestSameNaNs(t *testing.T) {
	nans := []uint64{0x7ff8 << 48, 0xfff8 << 48, 0x7ff<<52 | 1, 0xfff<<52 | 1, 0x7fffffffffffffff, math.MaxUint64, 0xfff<<52 | 9}
	for _, a := range nans {
		for _, b := range nans {
			x, y := num(math.Float64frombits(a)), num(math.Float64frombits(b))
			if !formula.Same(x, y) || !formula.Same(call("SUM", x), call("SUM", y)) || !formula.Same(api.Node{Kind: 3, X: x.X}, api.Node{Kind: 3, X: y.X}) {
				t.Errorf("P12.4: %x and %x are not the same", a, b)
			}
		}
		for _, x := range []float64{0, 1, math.Inf(1), math.Inf(-1)} {
			if formula.Same(num(math.Float64frombits(a)), num(x)) || formula.Same(num(x), num(math.Float64frombits(a))) {
				t.Errorf("P12.4: %x and %v are the same", a, x)
			}
		}
	}
	none, empty, spare := num(1), num(1), num(1)
	empty.Args = []api.Node{}
	spare.Args = []api.Node{num(9)}[:0]
	for _, a := range []api.Node{none, empty, spare} {
		for _, b := range []api.Node{none, empty, spare} {
			if !formula.Same(a, b) || !formula.Same(un(2, a), un(2, b)) || !formula.Same(formula.Copy(a), b) {
				t.Error("P12.4: none and an empty list are not alike")
			}
		}
	}
}

// checkCopy checks a Copy: the same, the NaN in the place of all like it, in new memory.
func checkCopy(t *testing.T, n api.Node) {
	t.Helper()
	n = roomy(n)
	was := snapshot(n)
	c := formula.Copy(n)
	if told(c) != told(n) {
		t.Errorf("P12.4: Copy(%s): %s", short(told(n)), short(told(c)))
	}
	if !formula.Same(c, n) || !formula.Same(n, c) {
		t.Errorf("P12.5: Copy(%s) is not the same", short(told(n)))
	}
	for _, m := range flat(c) {
		if math.IsNaN(m.X) && math.Float64bits(m.X) != 0x7ff8000000000000 {
			t.Errorf("P12.4: Copy(%s) has a NaN of the bits %x", short(told(n)), math.Float64bits(m.X))
		}
	}
	checkApart(t, "Copy("+told(n)+")", c, n)
	if snapshot(n) != was {
		t.Errorf("R3: Copy has changed %s", short(was))
	}
	// Whichever of both is written over, the other one stays.
	kept := told(c)
	writeOver(n)
	if told(c) != kept {
		t.Errorf("R3: Copy hangs on what was copied: %s", short(was))
	}
	d := formula.Copy(c)
	writeOver(c)
	if told(d) != kept {
		t.Errorf("R3: a Copy's Copy hangs on it: %s", short(was))
	}
}

// writeOver writes over all lists of a node, their spare room too.
func writeOver(n api.Node) {
	for _, l := range lists(n) {
		for i := range l {
			l[i] = txt("over")
		}
	}
}

// P12.4: Copy.
func TestCopy(t *testing.T) {
	for _, n := range slices.Concat(odd(), eachKind()) {
		checkCopy(t, n)
		checkCopy(t, un(2, n))
		checkCopy(t, call("SUM", n, n, call("SUM", n)))
	}
	for _, bits := range []uint64{0x7ff8 << 48, 0xfff8 << 48, 0x7ff<<52 | 1, 0xfff<<52 | 1, 0x7fffffffffffffff, math.MaxUint64} {
		checkCopy(t, num(math.Float64frombits(bits)))
		checkCopy(t, call("SUM", num(1), api.Node{Kind: 3, X: math.Float64frombits(bits)}))
	}
	// One list that stands at two places is two lists in the Copy.
	shared := []api.Node{num(1), num(2)}
	c := formula.Copy(bin(4, call("SUM", shared...), call("MAX", shared...)))
	c.Args[0].Args[0] = num(9)
	if told(c) != told(bin(4, call("SUM", num(9), num(2)), call("MAX", num(1), num(2)))) {
		t.Errorf("R3: lists of a Copy share memory: %s", told(c))
	}
}

// gone are the nodes that an iterator goes over.
func gone(n api.Node) []api.Node {
	var l []api.Node
	for m := range formula.Nodes(n) {
		l = append(l, m)
	}
	return l
}

// sameList tells whether two lists have the same nodes; told tells all but a NaN's bits.
func sameList(a, b []api.Node) bool {
	return slices.EqualFunc(a, b, func(x, y api.Node) bool {
		return told(x) == told(y) && (!math.IsNaN(x.X) || math.Float64bits(x.X) == 0x7ff8<<48)
	})
}

// P12.4: Nodes, in order, each without its Args.
func TestNodes(t *testing.T) {
	n := bin(4, ref(2, 1), call("SUM", area(at(1, 1), at(1, 2)), un(2, num(3)), txt("x")))
	want := []api.Node{{Kind: 8, Op: 4}, ref(2, 1), {Kind: 9, S: "SUM"}, area(at(1, 1), at(1, 2)), {Kind: 7, Op: 2}, num(3), txt("x")}
	if l := gone(n); !sameList(l, want) {
		t.Errorf("P12.4: Nodes: %v", l)
	}
	r := rand.New(rand.NewSource(124))
	nodes := slices.Concat(odd(), eachKind())
	for range 3000 {
		nodes = append(nodes, randomNode(r, 1+r.Intn(6)))
	}
	for _, n := range nodes {
		n = roomy(n)
		was := snapshot(n)
		l := gone(n)
		if !sameList(l, flat(n)) {
			t.Errorf("P12.4: Nodes(%s): %v", short(told(n)), l)
		}
		for _, m := range l {
			if len(m.Args) > 0 || cap(m.Args) > 0 {
				t.Errorf("P12.4: Nodes(%s) tells Args", short(told(n)))
			}
		}
		if snapshot(n) != was {
			t.Errorf("R3: Nodes has changed %s", short(was))
		}
	}
}

// P12.4, R5: an iterator that is left early, gone over again, and within itself.
func TestIterator(t *testing.T) {
	n := bin(4, call("SUM", num(1), num(2)), un(2, call("MAX", num(3), num(4))))
	want := flat(n)
	seq := formula.Nodes(n)
	for stop := range len(want) + 1 {
		var l []api.Node
		for m := range seq {
			if len(l) == stop {
				break
			}
			l = append(l, m)
		}
		if !sameList(l, want[:stop]) {
			t.Errorf("R5: left at %d: %v", stop, l)
		}
	}
	// Behind a false nothing more is handed over.
	for stop := 1; stop <= len(want); stop++ {
		count := 0
		seq(func(api.Node) bool {
			count++
			return count < stop
		})
		if count != stop {
			t.Errorf("R5: left at %d, gone on to %d", stop, count)
		}
	}
	outer := 0
	for m := range seq {
		if told(m) != told(want[outer]) {
			t.Errorf("R5: within itself: %s", told(m))
		}
		outer++
		inner := 0
		for k := range seq {
			if told(k) != told(want[inner]) {
				t.Errorf("R5: within itself: %s", told(k))
			}
			inner++
			if inner == outer {
				break
			}
		}
	}
	if outer != len(want) {
		t.Errorf("R5: gone over %d", outer)
	}
	if formula.Nodes(api.Node{}) == nil {
		t.Error("R5: Nodes is nil")
	}
	func() {
		defer func() {
			if recover() != "mine" {
				t.Error("a loop's own panic is caught")
			}
		}()
		for range seq {
			panic("mine")
		}
	}()
}

// P12.4: the Copy is made at the call.
func TestNodesOfACopy(t *testing.T) {
	n := roomy(bin(4, call("SUM", num(1), num(2)), un(2, num(3))))
	want := flat(n)
	seq := formula.Nodes(n)
	writeOver(n)
	var l []api.Node
	for m := range seq {
		l = append(l, m)
	}
	if !sameList(l, want) {
		t.Errorf("P12.4: Nodes of what is written over: %v", l)
	}
	n = roomy(bin(4, call("SUM", num(1), num(2)), un(2, num(3))))
	l = nil
	for m := range formula.Nodes(n) {
		writeOver(n)
		m.Args = append(m.Args, num(5))
		m.Args = nil
		l = append(l, m)
	}
	if !sameList(l, want) {
		t.Errorf("P12.4: Nodes of what is written over meanwhile: %v", l)
	}
}

// P12.4: very deep ones, and very many.
func TestGreatTrees(t *testing.T) {
	deep := chain(num(1), 1<<16-1)
	other := chain(num(2), 1<<16-1)
	c := formula.Copy(deep)
	if !formula.Same(deep, c) || formula.Same(other, c) || formula.Same(deep, deep.Args[0]) {
		t.Error("P12.4: Same, Copy of a deep chain")
	}
	count := 0
	for m := range formula.Nodes(deep) {
		count++
		if (m.Kind == 1) != (count == 1<<16) {
			t.Fatalf("P12.4: Nodes of a deep chain: %s at %d", told(m), count)
		}
	}
	if count != 1<<16 {
		t.Errorf("P12.4: Nodes of a deep chain: %d", count)
	}
	many := make([]api.Node, 1<<18)
	for i := range many {
		many[i] = un(1, num(float64(i)))
	}
	wide := api.Node{Kind: 3, Args: many}
	c = formula.Copy(wide)
	if !formula.Same(wide, c) {
		t.Error("P12.4: Copy of very many")
	}
	c.Args[1<<18-1].Args[0].X = -1
	if formula.Same(wide, c) || many[1<<18-1].Args[0].X != 1<<18-1 {
		t.Error("P12.4: Same of very many")
	}
	count = 0
	for m := range formula.Nodes(wide) {
		if count%2 == 0 && count > 0 && m.X != float64(count/2-1) {
			t.Fatalf("P12.4: Nodes of very many: %s at %d", told(m), count)
		}
		count++
	}
	if count != 1+1<<19 {
		t.Errorf("P12.4: Nodes of very many: %d", count)
	}
}

// P12.5: what follows, of formulas that may be.
func TestMayBeFollows(t *testing.T) {
	r := rand.New(rand.NewSource(125))
	plain := []api.Node{num(0), num(7.5), num(math.MaxFloat64), txt(""), txt("a\"b"), txt(strings.Repeat("x", 1024)), truth(true), truth(false), fault(1), fault(5)}
	found := 0
	for range 20000 {
		n := randomNode(r, 1+r.Intn(5))
		if formula.Check(n) != api.OK {
			continue
		}
		found++
		for _, a := range n.Args {
			if err := formula.Check(a); a.Kind != 6 && err != api.OK || a.Kind == 6 && err != api.ErrSyntax {
				t.Errorf("P12.5: an Arg of %s may not be: %d", told(n), err)
			}
		}
		other := formula.Copy(n)
		exchange(r, &other, plain)
		if err := formula.Check(other); err != api.OK {
			t.Errorf("P12.5: %s may not be: %d", told(other), err)
		}
		if !formula.Same(n, formula.Copy(n)) {
			t.Errorf("P12.5: %s is not the same as its Copy", told(n))
		}
	}
	if found < 3000 {
		t.Errorf("just %d formulas may be", found)
	}
}

// exchange puts other numbers, texts, truths and faults in the place of a formula's.
func exchange(r *rand.Rand, n *api.Node, plain []api.Node) {
	if n.Kind >= 1 && n.Kind <= 4 {
		*n = plain[r.Intn(len(plain))]
	}
	for i := range n.Args {
		exchange(r, &n.Args[i], plain)
	}
}
