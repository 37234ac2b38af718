package eval

import (
	"quadrille/addr"
	"quadrille/api"
	"quadrille/calls"
	"quadrille/table"
	"quadrille/value"
)

// work is a formula that is worked out over a source.
type work struct {
	source Source
	rules  [api.NodeCall + 1]rule
}

// rule is how nodes of one kind are worked out.
type rule struct {
	of func(w *work, n api.Node) api.Value
}

// rules are those of all kinds, each at its kind's place. An area has none: it has no value, and stands among a call's arguments alone.
func rules() [api.NodeCall + 1]rule {
	return [...]rule{
		api.NodeNumber: {func(w *work, n api.Node) api.Value { return value.OfNumber(n.X) }},
		api.NodeText:   {func(w *work, n api.Node) api.Value { return value.OfText(n.S) }},
		api.NodeTruth:  {func(w *work, n api.Node) api.Value { return value.OfTruth(n.B) }},
		api.NodeFault:  {func(w *work, n api.Node) api.Value { return value.OfFault(n.F) }},
		api.NodeRef:    {cell},
		api.NodeUnary:  {unary},
		api.NodeBinary: {binary},
		api.NodeCall:   {call},
	}
}

// valueOf is a node's value, a blank one too.
func (w *work) valueOf(n api.Node) api.Value { return w.rules[n.Kind].of(w, n) }

func cell(w *work, n api.Node) api.Value { return seen(w.source.Cell(n.Ref.Addr)) }

// seen is what a source tells, as it counts here: no source is trusted to tell values that may be.
func seen(v api.Value) api.Value {
	switch {
	case !value.Valid(v):
		return value.OfFault(api.FaultValue)
	case v.Kind == api.Number:
		return value.OfNumber(v.X)
	}
	return v
}

func unary(w *work, n api.Node) api.Value {
	x, fault := value.Num(w.valueOf(n.Args[0]))
	if fault != 0 {
		return value.OfFault(fault)
	}
	switch n.Op {
	case api.OpMinus:
		x = table.Neg(x)
	case api.OpPercent:
		return value.ByError(table.Percent(x))
	}
	return value.OfNumber(x)
}

func binary(w *work, n api.Node) api.Value {
	a, b := w.valueOf(n.Args[0]), w.valueOf(n.Args[1])
	switch n.Op {
	case api.OpAdd:
		return ofNumbers(table.Add, a, b)
	case api.OpSub:
		return ofNumbers(table.Sub, a, b)
	case api.OpMul:
		return ofNumbers(table.Mul, a, b)
	case api.OpDiv:
		return ofNumbers(table.Div, a, b)
	case api.OpPower:
		return ofNumbers(table.Power, a, b)
	case api.OpJoin:
		return joined(a, b)
	}
	return value.Compare(n.Op, a, b)
}

// ofNumbers is what comes of two values as numbers; the first one's fault goes ahead.
func ofNumbers(of func(x, y float64) (float64, api.Errno), a, b api.Value) api.Value {
	x, fault := value.Num(a)
	if fault != 0 {
		return value.OfFault(fault)
	}
	y, fault := value.Num(b)
	if fault != 0 {
		return value.OfFault(fault)
	}
	return value.ByError(of(x, y))
}

// joined is two values as texts, one behind the other; the first one's fault goes ahead.
func joined(a, b api.Value) api.Value {
	s, fault := value.Str(a)
	if fault != 0 {
		return value.OfFault(fault)
	}
	t, fault := value.Str(b)
	if fault != 0 {
		return value.OfFault(fault)
	}
	return value.OfText(s + t)
}

func call(w *work, n api.Node) api.Value {
	var args []calls.Arg
	for _, a := range n.Args {
		args = append(args, w.argument(a))
	}
	v, err := calls.Call(n.S, args...)
	if err != api.OK {
		return value.ByError(0, err)
	}
	return v
}

func (w *work) argument(n api.Node) calls.Arg {
	if n.Kind == api.NodeArea {
		return w.areaOf(api.Area{From: n.Ref.Addr, To: n.To.Addr})
	}
	return calls.Arg{V: w.valueOf(n)}
}

// areaOf is what the source tells of an area, up to one value more than it has cells: package calls refuses that many, and a source may have no end.
func (w *work) areaOf(a api.Area) calls.Arg {
	arg := calls.Arg{Area: true, N: addr.Size(a)}
	each := w.source.Each(a)
	if each == nil {
		panic(gaveUp{api.ErrArg})
	}
	// Called, not ranged over: a source that goes on behind a false does no harm then.
	each(func(_ api.Addr, v api.Value) bool {
		if v = seen(v); v.Kind != api.Blank && len(arg.L) <= arg.N {
			arg.L = append(arg.L, v)
		}
		return len(arg.L) <= arg.N
	})
	return arg
}
