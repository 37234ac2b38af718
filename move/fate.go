package move

import (
	"quadrille/addr"
	"quadrille/api"
	"quadrille/grid"
)

// fate says what becomes of references. Cells go where references to them go: so it says what becomes of these, too.
type fate struct {
	// of tells which area stands for one that a formula names; false, if it is lost. A cell is the area that has it alone.
	of func(a api.Area) (api.Area, bool)
}

// alone is the area that has one cell.
func alone(at api.Addr) api.Area { return api.Area{From: at, To: at} }

// along is a formula whose references have gone along. Its lists must be the caller's own: they are written over.
func (f fate) along(n api.Node) api.Node {
	var walk func(n api.Node) api.Node
	walk = func(n api.Node) api.Node {
		switch n.Kind {
		case api.NodeRef, api.NodeArea:
			return f.named(n)
		}
		for i, a := range n.Args {
			n.Args[i] = walk(a)
		}
		return n
	}
	return walk(n)
}

// named is what becomes of a node that names cells. Its marks stay where they are.
func (f fate) named(n api.Node) api.Node {
	a := alone(n.Ref.Addr)
	if n.Kind == api.NodeArea {
		a.To = n.To.Addr
	}
	a, ok := f.of(a)
	if !ok {
		return api.Node{Kind: api.NodeFault, F: api.FaultRef}
	}
	n.Ref.Addr = a.From
	if n.Kind == api.NodeArea {
		n.To.Addr = a.To
	}
	return n
}

// brought is a grid whose cells and their formulas have gone along, and whether a cell was lost.
func (f fate) brought(g *grid.Grid) (other *grid.Grid, lost bool) {
	other = grid.New()
	for at, c := range g.All() {
		place, ok := f.of(alone(at))
		if !ok {
			lost = true
			continue
		}
		c.F = f.along(c.F)
		other.Put(place.From, c) // never refused: no two cells come to one place
	}
	return other, lost
}

// ofMove is what becomes of references when one area is moved to where another one is.
func ofMove(from, there api.Area) fate {
	return fate{of: func(a api.Area) (api.Area, bool) {
		switch {
		case within(a, from):
			return api.Area{From: moved(a.From, from.From, there.From), To: moved(a.To, from.From, there.From)}, true
		case within(a, there):
			return api.Area{}, false
		}
		return a, true
	}}
}

// within tells whether an area lies within another one altogether.
func within(a, outer api.Area) bool { return addr.In(outer, a.From) && addr.In(outer, a.To) }

// moved is a place that has gone as far as one cell is from another one.
func moved(at, from, to api.Addr) api.Addr {
	return api.Addr{Col: at.Col + to.Col - from.Col, Row: at.Row + to.Row - from.Row}
}
