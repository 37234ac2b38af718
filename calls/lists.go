package calls

import (
	"slices"

	"quadrille/api"
	"quadrille/order"
	"quadrille/sums"
	"quadrille/table"
	"quadrille/value"
)

// ofNumbers makes a function of what comes of all numbers that it is given, and of what it is where there is none.
func ofNumbers(of func(l []float64) (float64, api.Errno), empty api.Value) func(g *given) api.Value {
	return func(g *given) api.Value {
		l := g.numbers(g.args...)
		if len(l) == 0 {
			return empty
		}
		return value.ByError(of(l))
	}
}

// variance is that of numbers which are a sample, or all there are.
func variance(sample bool) func(l []float64) (float64, api.Errno) {
	return func(l []float64) (float64, api.Errno) { return sums.Variance(l, sample) }
}

// deviation is the root of the variance.
func deviation(sample bool) func(l []float64) (float64, api.Errno) {
	return func(l []float64) (float64, api.Errno) {
		x, err := sums.Variance(l, sample)
		if err != api.OK {
			return 0, err
		}
		return table.Root(x)
	}
}

// often is the number that stands there most often; where each stands there once, there is nothing to tell.
func often(l []float64) (float64, api.Errno) {
	x, times, err := order.Often(l)
	if err == api.OK && times == 1 {
		return 0, api.ErrEmpty
	}
	return x, err
}

// tally makes a function that counts the values of some kinds.
func tally(kinds ...int) func(g *given) api.Value {
	return func(g *given) api.Value {
		n := 0
		for v := range counted(g.args, kinds...) {
			if slices.Contains(kinds, v.Kind) {
				n++
			}
		}
		return value.OfNumber(float64(n))
	}
}

// ofTruths makes a function of what all truths that it is given come to.
func ofTruths(of func(l []bool) bool) func(g *given) api.Value {
	return func(g *given) api.Value {
		l := g.truths(g.args...)
		if len(l) == 0 {
			return value.OfFault(api.FaultValue)
		}
		return value.OfTruth(of(l))
	}
}

func allTrue(l []bool) bool { return !slices.Contains(l, false) }

func someTrue(l []bool) bool { return slices.Contains(l, true) }

// sumProduct leans on sums.Dot, whose error of unlike lengths comes to the fault that is asked for.
func sumProduct(g *given) api.Value {
	a := g.numbers(g.args[0])
	b := g.numbers(g.args[1])
	return value.ByError(sums.Dot(a, b))
}

// placed makes a function that tells the number of a place, as they stand in order, from the last one on or from the first one.
func placed(fromLast bool) func(g *given) api.Value {
	return func(g *given) api.Value {
		l := g.numbers(g.args[0])
		k := g.whole(1)
		if k < 1 || k > int64(len(l)) {
			return value.OfFault(api.FaultNum)
		}
		if fromLast {
			k = int64(len(l)) + 1 - k
		}
		return value.ByError(order.Nth(l, int(k)))
	}
}

func percentile(g *given) api.Value {
	l := g.numbers(g.args[0])
	x, err := order.Share(l, g.number(1))
	if err != api.OK {
		return value.OfFault(api.FaultNum)
	}
	return value.OfNumber(x)
}

func rank(g *given) api.Value {
	x := g.number(0)
	l := g.numbers(g.args[1])
	rising := len(g.args) == 3 && !table.Equal(g.number(2), 0)
	n, err := order.Rank(l, x, rising)
	if err != api.OK {
		return value.OfFault(api.FaultNone)
	}
	return value.OfNumber(float64(n))
}

func countIf(g *given) api.Value {
	l := g.numbers(g.args[0])
	op := comparison(g.text(1))
	n, err := order.Count(l, op, g.number(2))
	if err != api.OK {
		return value.OfFault(api.FaultValue)
	}
	return value.OfNumber(float64(n))
}

// comparison is the one of a sign, 0 of a text that is none.
func comparison(sign string) int {
	switch sign {
	case "=":
		return api.OpEq
	case "<>":
		return api.OpNe
	case "<":
		return api.OpLt
	case "<=":
		return api.OpLe
	case ">":
		return api.OpGt
	case ">=":
		return api.OpGe
	}
	return 0
}
