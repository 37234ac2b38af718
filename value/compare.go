package value

import (
	"cmp"

	"quadrille/api"
)

// standing is how one value stands to another one. With the NaN nothing of it holds, so each is told for itself.
type standing struct{ below, equal, above bool }

// comparison is what an operation asks of how its sides stand.
type comparison struct {
	holds func(s standing) bool
}

// comparisons are those of OpEq on, one behind the other.
func comparisons() [api.OpGe - api.OpEq + 1]comparison {
	return [...]comparison{
		api.OpEq - api.OpEq: {func(s standing) bool { return s.equal }},
		api.OpNe - api.OpEq: {func(s standing) bool { return !s.equal }},
		api.OpLt - api.OpEq: {func(s standing) bool { return s.below }},
		api.OpLe - api.OpEq: {func(s standing) bool { return s.below || s.equal }},
		api.OpGt - api.OpEq: {func(s standing) bool { return s.above }},
		api.OpGe - api.OpEq: {func(s standing) bool { return s.above || s.equal }},
	}
}

// Compare is what a comparison comes to.
func Compare(op int, a, b api.Value) api.Value {
	if op < api.OpEq || op > api.OpGe {
		return OfFault(api.FaultValue)
	}
	for _, v := range [...]api.Value{a, b} {
		if f := faultOf(v); f != 0 {
			return OfFault(f)
		}
	}
	return OfTruth(comparisons()[op-api.OpEq].holds(stand(a, b)))
}

// stand tells how two values stand, neither of them a fault.
func stand(a, b api.Value) standing {
	a, b = filled(a, b.Kind), filled(b, a.Kind)
	if a.Kind != b.Kind {
		return held(a.Kind, b.Kind)
	}
	switch a.Kind {
	case api.Number:
		return held(a.X, b.X)
	case api.Text:
		return held(a.S, b.S)
	case api.Truth:
		return held(count(a.B), count(b.B))
	}
	return standing{equal: true}
}

// filled is a value as it counts beside one of that kind: of a Blank the zero of that kind, which is just what a Blank is there.
func filled(v api.Value, kind int) api.Value {
	if v.Kind == api.Blank {
		return api.Value{Kind: kind}
	}
	return v
}

// held holds two of one kind against each other.
func held[T cmp.Ordered](a, b T) standing { return standing{below: a < b, equal: a == b, above: b < a} }
