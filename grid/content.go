package grid

import (
	"quadrille/api"
	"quadrille/formula"
	"quadrille/value"
)

// Valid tells whether a content may be.
func Valid(c api.Content) bool {
	switch c.Kind {
	case api.Empty:
		return isZeroValue(c.V) && isZeroNode(c.F)
	case api.Plain:
		return c.V.Kind != api.Blank && value.Valid(c.V) && isZeroNode(c.F)
	case api.Formula:
		return isZeroValue(c.V) && formula.Check(c.F) == api.OK
	}
	return false
}

// isZeroValue tells whether all fields of a value are zero: a Blank may be with no others.
func isZeroValue(v api.Value) bool { return v.Kind == api.Blank && value.Valid(v) }

// isZeroNode tells whether all fields of a node are zero. formula.Same knows -0 from +0, and takes a list without elements for none.
func isZeroNode(n api.Node) bool { return formula.Same(n, api.Node{}) }

// Same tells whether two contents are the same.
func Same(a, b api.Content) bool {
	if a.Kind != b.Kind {
		return false
	}
	switch a.Kind {
	case api.Plain:
		return value.Same(a.V, b.V)
	case api.Formula:
		return formula.Same(a.F, b.F)
	}
	return true
}

// Copy is a content in new memory.
func Copy(c api.Content) api.Content {
	// Whatever the value's Kind is, X may be a NaN of other bits.
	c.V.X = value.OfNumber(c.V.X).X
	c.F = formula.Copy(c.F)
	return c
}
