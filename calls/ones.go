package calls

import (
	"math"

	"quadrille/api"
	"quadrille/single"
	"quadrille/table"
	"quadrille/value"
)

// ofOne makes a function of what comes of one number.
func ofOne(of func(x float64) (float64, api.Errno)) func(g *given) api.Value {
	return func(g *given) api.Value { return value.ByError(of(g.number(0))) }
}

// ofTwo makes a function of what comes of two numbers.
func ofTwo(of func(a, b float64) (float64, api.Errno)) func(g *given) api.Value {
	return func(g *given) api.Value {
		a := g.number(0)
		b := g.number(1)
		return value.ByError(of(a, b))
	}
}

func fused(g *given) api.Value {
	a := g.number(0)
	b := g.number(1)
	c := g.number(2)
	return value.ByError(table.Fused(a, b, c))
}

func itself(x float64) (float64, api.Errno) { return x, api.OK }

func magnitude(x float64) (float64, api.Errno) { return math.Abs(x), api.OK }

// sign is that of a number, of the NaN the NaN, which is neither above nor below nor equal to 0.
func sign(x float64) (float64, api.Errno) {
	switch {
	case table.Less(0, x):
		return 1, api.OK
	case table.Less(x, 0):
		return -1, api.OK
	case table.Equal(x, 0):
		return 0, api.OK
	}
	return x, api.OK
}

// whole is a number rounded to a whole one by a mode.
func whole(mode int) func(x float64) (float64, api.Errno) {
	return func(x float64) (float64, api.Errno) { return single.Whole(x, mode) }
}

// asSingle is a number rounded to a single. An infinity is one; a number that only becomes one is over.
func asSingle(x float64) (float64, api.Errno) {
	y, flags, err := single.Narrow(x, api.Even)
	if flags.Over {
		return 0, api.ErrOver
	}
	return single.Widen(y), err
}

// rounded makes a function that rounds to places, by one mode what is below 0, by the other one all else.
func rounded(mode, below int) func(g *given) api.Value {
	return func(g *given) api.Value {
		x := g.number(0)
		n := g.whole(1)
		if n < -api.MaxPlaces || n > api.MaxPlaces {
			return value.OfFault(api.FaultNum)
		}
		by := mode
		if table.Less(x, 0) {
			by = below
		}
		return value.ByError(table.Places(x, int(n), by))
	}
}

func ifElse(g *given) api.Value {
	switch {
	case g.truth(0):
		return g.told(1)
	case len(g.args) == 3:
		return g.told(2)
	}
	return value.OfTruth(false)
}

func ifError(g *given) api.Value {
	if g.one(0).Kind == api.Fault {
		return g.told(1)
	}
	return g.told(0)
}

func choose(g *given) api.Value {
	k := g.whole(0)
	if k < 1 || k >= int64(len(g.args)) {
		return value.OfFault(api.FaultValue)
	}
	return g.told(int(k))
}

func not(g *given) api.Value { return value.OfTruth(!g.truth(0)) }

func notThere(g *given) api.Value { return value.OfFault(api.FaultNone) }

// isOf makes a function that tells whether a value is of a kind; of an area that can't be asked.
func isOf(kind int) func(g *given) api.Value {
	return func(g *given) api.Value {
		if g.args[0].Area {
			return value.OfFault(api.FaultValue)
		}
		return value.OfTruth(g.args[0].V.Kind == kind)
	}
}

func exact(g *given) api.Value {
	a := g.told(0)
	b := g.told(1)
	return value.OfTruth(value.Same(a, b))
}
