package move

import (
	"quadrille/addr"
	"quadrille/api"
	"quadrille/grid"
	"quadrille/write"
)

// asGreat is the area that is as great as another one, and whose first cell is to; or what stands against copying or moving there.
func asGreat(g *grid.Grid, from api.Area, to api.Addr) (api.Area, api.Errno) {
	if g == nil || !addr.ValidArea(from) {
		return api.Area{}, api.ErrArg
	}
	// A sum that wraps round does no harm: then to itself is no cell.
	return addr.Area(to, moved(from.To, from.From, to))
}

// without is a copy of a grid in which an area is empty.
func without(g *grid.Grid, a api.Area) *grid.Grid {
	other := g.Clone()
	for at := range g.In(a) {
		other.Put(at, api.Content{})
	}
	return other
}

// putCopy puts a copy of what stood at from: the grid's error, if it is full.
func putCopy(g *grid.Grid, at api.Addr, c api.Content, from api.Addr) api.Errno {
	if c.Kind == api.Formula {
		c.F, _ = write.Shift(c.F, at.Col-from.Col, at.Row-from.Row) // what stood in a grid may be
	}
	return g.Put(at, c)
}
