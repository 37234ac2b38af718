package calls

import (
	"iter"
	"slices"

	"quadrille/api"
	"quadrille/single"
	"quadrille/value"
)

// given are a call's arguments, and the first fault that was met as they were read. A function reads them in their order, and needn't look at that fault: it goes ahead of whatever the function comes to.
type given struct {
	args  []Arg
	fault int
}

// allRight tells whether each argument is right.
func allRight(args []Arg) bool {
	for _, a := range args {
		if !isRight(a) {
			return false
		}
	}
	return true
}

// isRight tells whether an argument is just a value, or just an area. An area's V is held against no other value, as -0 would pass for zero.
func isRight(a Arg) bool {
	if !value.Valid(a.V) {
		return false
	}
	if !a.Area {
		return len(a.L) == 0 && a.N == 0
	}
	if a.V.Kind != api.Blank || a.N < 1 || a.N < len(a.L) {
		return false
	}
	for _, v := range a.L {
		if v.Kind == api.Blank || !value.Valid(v) {
			return false
		}
	}
	return true
}

// meet keeps a fault (0: there is none), unless one was met ahead of it.
func (g *given) meet(fault int) {
	if g.fault == 0 {
		g.fault = fault
	}
}

// one is the i-th argument, where that may be no area: an area counts as a fault there.
func (g *given) one(i int) api.Value {
	if g.args[i].Area {
		return value.OfFault(api.FaultValue)
	}
	return g.args[i].V
}

// told is the i-th argument as it is.
func (g *given) told(i int) api.Value {
	v := g.one(i)
	switch v.Kind {
	case api.Number:
		return value.OfNumber(v.X)
	case api.Fault:
		g.meet(v.F)
	}
	return v
}

// number is what the i-th argument counts as.
func (g *given) number(i int) float64 {
	x, fault := value.Num(g.one(i))
	g.meet(fault)
	return x
}

// whole is the number of the i-th argument, cut to a whole one.
func (g *given) whole(i int) int64 {
	n, err := single.ToInt(g.number(i), api.Zero)
	if err != api.OK {
		g.meet(api.FaultNum)
	}
	return n
}

// truth is what the i-th argument counts as.
func (g *given) truth(i int) bool {
	b, fault := value.Bool(g.one(i))
	g.meet(fault)
	return b
}

// text is what the i-th argument counts as.
func (g *given) text(i int) string {
	s, fault := value.Str(g.one(i))
	g.meet(fault)
	return s
}

// counted goes over the values among some arguments but blank ones, and over what areas show of these kinds.
func counted(args []Arg, kinds ...int) iter.Seq[api.Value] {
	return func(yield func(api.Value) bool) {
		for _, a := range args {
			if a.V.Kind != api.Blank && !yield(a.V) {
				return
			}
			for _, v := range a.L {
				if slices.Contains(kinds, v.Kind) && !yield(v) {
					return
				}
			}
		}
	}
}

// numbers are those of some of the arguments.
func (g *given) numbers(args ...Arg) []float64 {
	var l []float64
	for v := range counted(args, api.Number, api.Fault) {
		x, fault := value.Num(v)
		g.meet(fault)
		l = append(l, x)
	}
	return l
}

// truths are those of some of the arguments.
func (g *given) truths(args ...Arg) []bool {
	var l []bool
	for v := range counted(args, api.Number, api.Truth, api.Fault) {
		b, fault := value.Bool(v)
		g.meet(fault)
		l = append(l, b)
	}
	return l
}

// texts are those of some of the arguments. (A blank one's is empty, and left out.)
func (g *given) texts(args ...Arg) []string {
	var l []string
	for v := range counted(args, api.Number, api.Text, api.Truth, api.Fault) {
		s, fault := value.Str(v)
		g.meet(fault)
		l = append(l, s)
	}
	return l
}
