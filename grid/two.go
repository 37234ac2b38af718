package grid

import (
	"maps"
	"slices"

	"quadrille/addr"
	"quadrille/api"
)

// Clone is another grid of the same contents.
func (g *Grid) Clone() *Grid {
	if g == nil {
		return nil
	}
	other := New()
	for at, c := range g.cells {
		other.keep(at, Copy(c))
	}
	return other
}

// Equal tells whether two have the same contents.
func (g *Grid) Equal(o *Grid) bool {
	return g != nil && o != nil && maps.EqualFunc(g.cells, o.cells, Same)
}

// Puts are the puts that lead from this grid to another one, in order.
func (g *Grid) Puts(o *Grid) []api.Put {
	if g == nil || o == nil {
		return nil
	}
	var list []api.Put
	for _, at := range g.unlike(o) {
		list = append(list, api.Put{At: at, C: o.Get(at)})
	}
	return list
}

// unlike are the cells in which two grids have not the same, in order.
func (g *Grid) unlike(o *Grid) []api.Addr {
	var list []api.Addr
	for at, c := range o.cells {
		if !Same(g.cells[at], c) {
			list = append(list, at)
		}
	}
	for at := range g.cells {
		if !o.has(at) {
			list = append(list, at)
		}
	}
	slices.SortFunc(list, addr.Order)
	return list
}
