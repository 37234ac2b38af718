package eval_test

import (
	"fmt"
	"iter"
	"math/rand"
	"testing"

	"quadrille/addr"
	"quadrille/api"
	"quadrille/calls"
	"quadrille/eval"
	"quadrille/formula"
	"quadrille/table"
	"quadrille/value"
)

// shows is a source of the tests' own: what cells show.
type shows map[api.Addr]api.Value

func (s shows) Cell(at api.Addr) api.Value { return s[at] }

func (s shows) Each(a api.Area) iter.Seq2[api.Addr, api.Value] {
	return func(yield func(api.Addr, api.Value) bool) {
		for at := range addr.Cells(a) {
			// What may not be is told, whatever its Kind is.
			if v := s[at]; !alike(v, blank) && !yield(at, v) {
				return
			}
		}
	}
}

func (s sheet) shows() shows {
	out := shows{}
	for text, v := range s {
		out[cellAt(text)] = val(v)
	}
	return out
}

// cells are those of a source, in any order.
func (s shows) cells() []api.Cell {
	var l []api.Cell
	for at, v := range s {
		l = append(l, api.Cell{At: at, V: v})
	}
	return l
}

// model is the value of a node as the chapter's table says it, blank too.
func model(n api.Node, s shows) api.Value {
	switch n.Kind {
	case api.NodeNumber:
		return val(n.X)
	case api.NodeText:
		return val(n.S)
	case api.NodeTruth:
		return val(n.B)
	case api.NodeFault:
		return val(fl(n.F))
	case api.NodeRef:
		return counts(s[n.Ref.Addr])
	case api.NodeCall:
		return modelCall(n, s)
	}
	var l []api.Value
	for _, a := range n.Args {
		l = append(l, model(a, s))
	}
	switch {
	case n.Op >= api.OpEq:
		return value.Compare(n.Op, l[0], l[1])
	case n.Op == api.OpJoin:
		return modelJoin(l)
	}
	return modelNumbers(n.Op, l)
}

func modelJoin(l []api.Value) api.Value {
	out := ""
	for _, v := range l {
		s, f := value.Str(v)
		if f != 0 {
			return val(fl(f))
		}
		out += s
	}
	if len(out) > 1024 {
		return val(noVal)
	}
	return val(out)
}

func modelNumbers(op int, l []api.Value) api.Value {
	var x [2]float64
	for i, v := range l {
		y, f := value.Num(v)
		if f != 0 {
			return val(fl(f))
		}
		x[i] = y
	}
	y, err := 0.0, api.OK
	switch op {
	case api.OpPlus:
		y = x[0]
	case api.OpMinus:
		y = table.Neg(x[0])
	case api.OpPercent:
		y, err = table.Div(x[0], 100)
	case api.OpAdd:
		y, err = table.Add(x[0], x[1])
	case api.OpSub:
		y, err = table.Add(x[0], table.Neg(x[1]))
	case api.OpMul:
		y, err = table.Mul(x[0], x[1])
	case api.OpDiv:
		y, err = table.Div(x[0], x[1])
	case api.OpPower:
		y, err = table.Power(x[0], x[1])
	}
	switch err {
	case api.OK:
		return val(y)
	case api.ErrDiv:
		return val(div)
	}
	return val(noNum)
}

func modelCall(n api.Node, s shows) api.Value {
	var l []calls.Arg
	for _, a := range n.Args {
		if a.Kind == api.NodeArea {
			l = append(l, modelArea(api.Area{From: a.Ref.Addr, To: a.To.Addr}, s))
		} else {
			l = append(l, calls.Arg{V: model(a, s)})
		}
	}
	v, err := calls.Call(n.S, l...)
	if err != api.OK {
		return val(noVal)
	}
	return v
}

func modelArea(a api.Area, s shows) calls.Arg {
	arg := calls.Arg{Area: true}
	for at := range addr.Cells(a) {
		arg.N++
		if v := counts(s[at]); v.Kind != 0 {
			arg.L = append(arg.L, v)
		}
	}
	return arg
}

// maker makes formulas and sources by chance, over the cells A1 to D5.
type maker struct {
	*rand.Rand
	good, bad []api.Value
	names     []string
}

func made(seed int64) maker {
	return maker{rand.New(rand.NewSource(seed)), good(), bad(), calls.Names()}
}

func (m maker) cell() api.Ref {
	return api.Ref{Addr: api.Addr{Col: 1 + m.Intn(4), Row: 1 + m.Intn(5)}, ColFixed: m.Intn(4) == 0, RowFixed: m.Intn(4) == 0}
}

func (m maker) area() api.Node {
	a, b := m.cell(), m.cell()
	a.Addr.Col, b.Addr.Col = min(a.Addr.Col, b.Addr.Col), max(a.Addr.Col, b.Addr.Col)
	a.Addr.Row, b.Addr.Row = min(a.Addr.Row, b.Addr.Row), max(a.Addr.Row, b.Addr.Row)
	return api.Node{Kind: api.NodeArea, Ref: a, To: b}
}

// leaf is a node without Args.
func (m maker) leaf() api.Node {
	switch m.Intn(10) {
	case 0, 1:
		return number([]float64{0, 1, 2, 3, 0.5, 10, 1e300, 0.1}[m.Intn(8)])
	case 2:
		return text([]string{"", "x", "12", "TRUE", ">=", "f2", "\u00e9a"}[m.Intn(7)])
	case 3:
		return truth(m.Intn(2) == 0)
	case 4:
		return fault(fl(1 + m.Intn(5)))
	}
	return api.Node{Kind: api.NodeRef, Ref: m.cell()}
}

// formula is one of at most that depth.
func (m maker) formula(depth int) api.Node {
	switch k := m.Intn(8); {
	case depth == 1 || k == 0:
		return m.leaf()
	case k == 1:
		return one(1+m.Intn(3), m.formula(depth-1))
	case k < 5:
		return two(4+m.Intn(12), m.formula(depth-1), m.formula(depth-1))
	}
	name := m.names[m.Intn(len(m.names))]
	least, greatest, _ := calls.Takes(name)
	n := called(name)
	for i := range least + m.Intn(min(greatest, 4)-least+1) {
		if m.Intn(12) == 0 || calls.Areas(name, i) && m.Intn(3) > 0 {
			n.Args = append(n.Args, m.area())
		} else {
			n.Args = append(n.Args, m.formula(depth-1))
		}
	}
	return n
}

// right is a formula that may be.
func (m maker) right() api.Node {
	for {
		if n := m.formula(1 + m.Intn(5)); formula.Check(n) == api.OK {
			return n
		}
	}
}

// value is one that a cell shows, often a plain one, sometimes one that may not be.
func (m maker) value(wrong bool) api.Value {
	switch k := m.Intn(12); {
	case k < 5:
		return val(m.Intn(9) - 3)
	case k == 5:
		return val([]float64{minus, inf, -inf, other, nan, most, tiny, 0.1}[m.Intn(8)])
	case k == 6 && wrong:
		return m.bad[m.Intn(len(m.bad))]
	case k < 9:
		return blank
	}
	return m.good[m.Intn(len(m.good))]
}

// source shows something in the cells that formulas use, and in some others.
func (m maker) source(wrong bool) shows {
	s := shows{}
	for at := range addr.Cells(areaAt("A1:F7")) {
		if m.Intn(5) > 0 {
			s[at] = m.value(wrong)
		}
	}
	return s
}

func TestFormulasByChance(t *testing.T) {
	m := made(161)
	kinds := map[int]int{}
	for i := range 30000 {
		n, s := m.right(), m.source(i%3 == 0)
		want := last(model(n, s))
		kinds[want.Kind]++
		check(t, "P16.1", fmt.Sprintf("formula %d by chance", i), n, s, want)
		if i%3 != 0 {
			check(t, "P16.1", fmt.Sprintf("formula %d by chance, by a Table", i), n, eval.Of(s.cells()), want)
		}
		if t.Failed() {
			t.Fatalf("formula %d: %+v", i, n)
		}
	}
	for kind := api.Number; kind <= api.Fault; kind++ {
		if kinds[kind] < 1000 {
			t.Errorf("too few values of kind %d: %d", kind, kinds[kind])
		}
	}
}
