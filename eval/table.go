package eval

import (
	"iter"
	"slices"

	"quadrille/addr"
	"quadrille/api"
)

// Table is a Source out of cells.
type Table struct {
	shown []shown // in order, each cell once
}

// shown is a cell and what it shows.
type shown struct {
	at api.Addr
	v  api.Value
}

// Of makes one.
func Of(l []api.Cell) *Table {
	var list []shown
	for _, c := range l {
		if addr.Valid(c.At) {
			list = append(list, shown{c.At, c.V})
		}
	}
	// A stable sort: of a cell that stands twice the first one stays first, and is kept.
	slices.SortStableFunc(list, func(a, b shown) int { return addr.Order(a.at, b.at) })
	list = slices.CompactFunc(list, func(a, b shown) bool { return a.at == b.at })
	return &Table{shown: list}
}

// Cell is what a cell shows.
func (t *Table) Cell(at api.Addr) api.Value {
	if t == nil {
		return api.Value{}
	}
	i, found := t.place(at)
	if !found {
		return api.Value{}
	}
	return t.shown[i].v
}

// Each goes over the cells of an area that show something.
func (t *Table) Each(a api.Area) iter.Seq2[api.Addr, api.Value] {
	return func(yield func(api.Addr, api.Value) bool) {
		if t == nil {
			return
		}
		first, _ := t.place(a.From)
		for _, s := range t.shown[first:] {
			if addr.Order(s.at, a.To) > 0 {
				return
			}
			// An area that may not be has none of them.
			if addr.In(a, s.at) && s.v.Kind != api.Blank && !yield(s.at, s.v) {
				return
			}
		}
	}
}

// place is where a cell stands in the list, and whether it does; else where it would stand.
func (t *Table) place(at api.Addr) (int, bool) {
	return slices.BinarySearchFunc(t.shown, at, func(s shown, at api.Addr) int { return addr.Order(s.at, at) })
}
