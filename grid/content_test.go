package grid_test

import (
	"math"
	"testing"

	"quadrille/api"
	"quadrille/grid"
)

// P17.1: contents.

func TestValid(t *testing.T) {
	for _, n := range zeroNodes() {
		if c := (api.Content{F: n}); !grid.Valid(c) {
			t.Errorf("P17.1: the empty content may not be: %s", told(c))
		}
	}
	for _, c := range good() {
		if !grid.Valid(c) {
			t.Errorf("P17.1: Valid(%s): false", short(told(c)))
		}
		if c.Kind == api.Plain {
			for _, n := range zeroNodes() {
				c.F = n
				if !grid.Valid(c) {
					t.Errorf("P17.1: Valid(%s) with a list without elements: false", short(told(c)))
				}
			}
		}
		for _, k := range []int{-1, 3, math.MinInt, math.MaxInt} {
			c := c
			c.Kind = k
			if grid.Valid(c) {
				t.Errorf("P17.1: Valid(%s): true", short(told(c)))
			}
		}
	}
	for _, x := range nans() {
		if !grid.Valid(num(x)) {
			t.Errorf("P17.1: a plain NaN of the bits %x may not be", math.Float64bits(x))
		}
	}
	for i, c := range bad() {
		if grid.Valid(c) {
			t.Errorf("P17.1: content %d of Kind %d that may not be: true", i, c.Kind)
		}
	}
}

func TestValidChangesNothing(t *testing.T) {
	for _, c := range good() {
		c = roomy(c)
		was := toldWhole(c)
		grid.Valid(c)
		grid.Same(c, c)
		grid.Copy(c)
		grid.New().Put(cellAt("B7"), c)
		if toldWhole(c) != was {
			t.Errorf("R3: what was handed in has changed: %s", short(was))
		}
	}
}

// P17.1: no two of these are the same, and each is the same as itself in other memory.
func TestSame(t *testing.T) {
	l := append(good(), empty, api.Content{Kind: 3}, api.Content{Kind: -1}, api.Content{Kind: math.MinInt}, api.Content{Kind: math.MaxInt},
		// Contents that may not be, in the field that counts.
		api.Content{Kind: api.Plain}, api.Content{Kind: api.Plain, V: api.Value{Kind: 9}}, api.Content{Kind: api.Plain, V: api.Value{Kind: -1}}, plain("\xff"), plain("\xfe"), plain(0), plain(6), plain(-1),
		api.Content{Kind: api.Formula})
	for _, n := range notZeroNodes()[1:22] { // the first one is the formula 0, which stands above
		l = append(l, api.Content{Kind: api.Formula, F: n})
	}
	l = append(l, api.Content{Kind: api.Formula, F: api.Node{X: math.NaN()}}, api.Content{Kind: api.Formula, F: api.Node{Args: []api.Node{{}}}}, api.Content{Kind: api.Formula, F: api.Node{Args: []api.Node{{}, {}}}}, api.Content{Kind: api.Formula, F: api.Node{Args: []api.Node{{X: minus}}}})
	for i, a := range l {
		for j, b := range l {
			b := roomy(clean(b))
			if grid.Same(a, b) != (i == j) {
				t.Errorf("P17.1: Same(%s, %s): %v", short(told(a)), short(told(b)), i != j)
			}
		}
	}
}

func TestSameNumbers(t *testing.T) {
	if grid.Same(num(0), num(minus)) || grid.Same(num(minus), num(0)) {
		t.Error("P17.1: +0 and -0 are the same")
	}
	node := func(x float64) api.Content {
		return api.Content{Kind: api.Formula, F: chain(api.Node{Kind: api.NodeNumber, X: x}, 2)}
	}
	if grid.Same(node(0), node(minus)) {
		t.Error("P17.1: +0 and -0 are the same in a formula")
	}
	for _, x := range nans() {
		for _, y := range nans() {
			if !grid.Same(num(x), num(y)) || !grid.Same(node(x), node(y)) {
				t.Errorf("P17.1: NaNs of the bits %x, %x are not the same", math.Float64bits(x), math.Float64bits(y))
			}
		}
		if grid.Same(num(x), num(math.Inf(1))) || grid.Same(node(x), node(0)) {
			t.Errorf("P17.1: a NaN of the bits %x is the same as a number", math.Float64bits(x))
		}
	}
}

// P17.1: fields that don't count are not looked at.
func TestSameWhateverElse(t *testing.T) {
	values := append(noValues(), val(7.), val("x"), api.Value{})
	nodes := append(notZeroNodes(), noFormulas()...)
	for _, k := range []int{api.Empty, 3, -1, 9, math.MinInt, math.MaxInt} {
		for _, v := range values {
			for _, n := range nodes {
				if !grid.Same(api.Content{Kind: k}, api.Content{Kind: k, V: v, F: n}) || !grid.Same(api.Content{Kind: k, V: v, F: n}, api.Content{Kind: k, V: val(7.)}) {
					t.Fatalf("P17.1: of Kind %d, with other fields: false", k)
				}
				if grid.Same(api.Content{Kind: k, V: v, F: n}, api.Content{Kind: api.Plain, V: v, F: n}) {
					t.Fatalf("P17.1: Kinds %d and Plain: true", k)
				}
			}
		}
	}
	for _, n := range nodes {
		if !grid.Same(num(7), api.Content{Kind: api.Plain, V: val(7.), F: n}) || grid.Same(num(7), api.Content{Kind: api.Plain, V: val(8.), F: n}) {
			t.Fatal("P17.1: of Plain F counts")
		}
	}
	for _, v := range values {
		if !grid.Same(fx("A1+1"), api.Content{Kind: api.Formula, V: v, F: tree("A1+1")}) || grid.Same(fx("A1+1"), api.Content{Kind: api.Formula, V: v, F: tree("A1+2")}) {
			t.Fatal("P17.1: of Formula V counts")
		}
		// Of a value itself what doesn't count doesn't either.
		w := v
		switch v.Kind {
		case api.Number:
			w = api.Value{Kind: v.Kind, X: v.X}
		case api.Text:
			w = api.Value{Kind: v.Kind, S: v.S}
		case api.Truth:
			w = api.Value{Kind: v.Kind, B: v.B}
		case api.Fault:
			w = api.Value{Kind: v.Kind, F: v.F}
		default:
			w = api.Value{Kind: v.Kind}
		}
		if !grid.Same(api.Content{Kind: api.Plain, V: v}, api.Content{Kind: api.Plain, V: w}) {
			t.Errorf("P17.1: the values %s, %s are not the same", toldValue(v), toldValue(w))
		}
	}
	for _, a := range zeroNodes() {
		for _, b := range zeroNodes() {
			x, y := api.Content{Kind: api.Formula, F: chain(a, 1)}, api.Content{Kind: api.Formula, F: chain(b, 1)}
			if !grid.Same(x, y) {
				t.Error("P17.1: none and a list without elements are not alike")
			}
		}
	}
}

// checkCopy checks a Copy: all fields, the NaN, new memory, whichever of both is written over.
func checkCopy(t *testing.T, c api.Content) {
	t.Helper()
	c = roomy(c)
	was, want := toldWhole(c), told(clean(c))
	d := grid.Copy(c)
	if told(d) != want {
		t.Errorf("P17.1: Copy(%s): %s", short(told(c)), short(told(d)))
	}
	if toldWhole(c) != was {
		t.Errorf("R3: Copy has changed %s", short(was))
	}
	if !grid.Same(c, d) || grid.Valid(c) != grid.Valid(d) {
		t.Errorf("P17.1: Copy(%s) is another one", short(told(c)))
	}
	e := grid.Copy(d)
	writeOver(c)
	if told(d) != want {
		t.Errorf("R3: a Copy hangs on what was copied: %s", short(want))
	}
	kept := toldWhole(c)
	writeOver(d)
	if toldWhole(c) != kept || told(e) != want {
		t.Errorf("R3: what was copied hangs on its Copy: %s", short(want))
	}
}

func TestCopy(t *testing.T) {
	for _, c := range append(good(), empty) {
		checkCopy(t, c)
	}
	for _, c := range bad() {
		if isEndless(c.F) {
			continue // beyond the bound: it has no end
		}
		checkCopy(t, c)
	}
	for _, n := range zeroNodes() {
		checkCopy(t, api.Content{F: n})
		checkCopy(t, api.Content{Kind: api.Formula, F: chain(n, 2)})
	}
}

// isEndless tells whether a node has more than 2000 nodes above one another, on the way of first Args.
func isEndless(n api.Node) bool {
	for range 2000 {
		if len(n.Args) == 0 {
			return false
		}
		n = n.Args[0]
	}
	return true
}

func TestCopyOfNaNs(t *testing.T) {
	for _, x := range nans() {
		for _, k := range []int{api.Blank, api.Number, api.Text, api.Truth, api.Fault, 5, -1} {
			for _, kind := range []int{api.Empty, api.Plain, api.Formula, 3, math.MinInt} {
				checkCopy(t, api.Content{Kind: kind, V: api.Value{Kind: k, X: x, S: "s", B: true, F: 2}})
				checkCopy(t, api.Content{Kind: kind, F: api.Node{Kind: k, X: x, S: "s"}})
			}
		}
		for depth := range 5 {
			leaf := api.Node{Kind: api.NodeNumber, X: x}
			n := chain(api.Node{Kind: api.NodeCall, S: "SUM", X: x, Args: []api.Node{leaf, tree("A1"), leaf}}, depth)
			n.X = x
			checkCopy(t, api.Content{Kind: api.Formula, V: val(x), F: n})
			checkCopy(t, api.Content{Kind: api.Plain, V: val(x), F: n})
			checkCopy(t, api.Content{V: val(x), F: n})
		}
		if d := grid.Copy(num(x)); math.Float64bits(d.V.X) != theNaN {
			t.Errorf("P17.1: Copy's NaN has the bits %x", math.Float64bits(d.V.X))
		}
	}
	for _, x := range []float64{0, minus, math.Inf(1), math.Inf(-1), 0x1p-1074, math.MaxFloat64} {
		if d := grid.Copy(num(x)); math.Float64bits(d.V.X) != math.Float64bits(x) {
			t.Errorf("P17.1: Copy of %v: %v", x, d.V.X)
		}
	}
}

func TestCopyOfOneListTwice(t *testing.T) {
	shared := []api.Node{tree("1"), tree("2")}
	c := api.Content{Kind: api.Formula, F: api.Node{Kind: api.NodeBinary, Op: api.OpAdd, Args: []api.Node{{Kind: api.NodeCall, S: "SUM", Args: shared}, {Kind: api.NodeCall, S: "MAX", Args: shared}}}}
	d := grid.Copy(c)
	d.F.Args[0].Args[0] = tree("9")
	if told(d) != told(fx("SUM(9,2)+MAX(1,2)")) {
		t.Errorf("R3: lists of a Copy share memory: %s", told(d))
	}
	e := grid.Copy(c)
	_ = append(e.F.Args[0].Args, tree("7"))
	_ = append(e.F.Args, tree("7"))
	if told(e) != told(c) {
		t.Errorf("R3: lists of a Copy share room: %s", told(e))
	}
}

func TestExamplesOfContents(t *testing.T) {
	for _, c := range []struct {
		c    api.Content
		want bool
	}{{empty, true}, {num(7), true}, {api.Content{Kind: api.Plain}, false}, {api.Content{V: val(7.)}, false}, {api.Content{Kind: api.Formula}, false}, {api.Content{Kind: 3}, false}} {
		if grid.Valid(c.c) != c.want {
			t.Errorf("P17.1: Valid(%s): %v", told(c.c), !c.want)
		}
	}
	if grid.Same(num(0), num(minus)) || !grid.Same(fx("A1+1"), fx(" a1 + 1")) {
		t.Error("P17.1: Same")
	}
}
