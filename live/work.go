package live

import (
	"iter"
	"maps"
	"slices"

	"quadrille/addr"
	"quadrille/api"
	"quadrille/eval"
	"quadrille/value"
)

// work is a batch that is being worked out. It is the source of the formulas.
type work struct {
	sheet           *sheet
	order           []api.Addr // the formulas that may have to be worked out, each behind what it uses
	filled          []api.Addr // the cells that are not empty, in order; none, until an area is asked for
	worked, changed []api.Addr // so far, in order
}

// workOut brings what is shown up to date: of the cells that were put, and of those formulas of an order that were put or use a cell that has changed.
func (s *sheet) workOut(puts []api.Put, order []api.Addr) {
	if s.shows == nil {
		s.shows = map[api.Addr]api.Value{}
	}
	w := &work{sheet: s, order: order}
	put := map[api.Addr]struct{}{}
	for _, p := range puts {
		put[p.At] = struct{}{}
		if p.C.Kind != api.Formula {
			w.show(p.At, s.Get(p.At).V) // as the grid has it: the NaN in the place of every other one
		}
	}
	for _, at := range order {
		if _, is := put[at]; is || w.usesChanged(at) {
			w.workOut(at)
		}
	}
	s.worked, s.changed = w.worked, w.changed
}

// show lays down what a cell shows from now on.
func (w *work) show(at api.Addr, v api.Value) {
	if !value.Same(v, w.Cell(at)) {
		w.changed = with(w.changed, at)
	}
	if v.Kind == api.Blank {
		delete(w.sheet.shows, at)
		return
	}
	w.sheet.shows[at] = v
}

// usesChanged tells whether a formula uses a cell that has changed.
func (w *work) usesChanged(at api.Addr) bool {
	return slices.ContainsFunc(w.sheet.links.Uses(at), func(a api.Area) bool {
		for range within(w.changed, a) {
			return true
		}
		return false
	})
}

// workOut works a formula out. No error can come: a sheet's formulas may be, and there is a source.
func (w *work) workOut(at api.Addr) {
	v, _ := eval.Eval(w.sheet.Get(at).F, w)
	w.worked = with(w.worked, at)
	w.show(at, v)
}

// Cell is what a cell shows.
func (w *work) Cell(at api.Addr) api.Value { return w.sheet.shows[at] }

// Each goes over the cells of an area that show something.
func (w *work) Each(a api.Area) iter.Seq2[api.Addr, api.Value] {
	if w.filled == nil {
		w.filled = w.notEmpty()
	}
	return func(yield func(api.Addr, api.Value) bool) {
		for at := range within(w.filled, a) {
			if !yield(at, w.Cell(at)) {
				return
			}
		}
	}
}

// notEmpty are the cells that are not empty, in order: those that show something, and formulas that were put and don't yet.
func (w *work) notEmpty() []api.Addr {
	list := slices.AppendSeq(slices.Clone(w.order), maps.Keys(w.sheet.shows))
	slices.SortFunc(list, addr.Order)
	return slices.Compact(list)
}

// within are those of some cells, which stand in order, that an area has.
func within(cells []api.Addr, a api.Area) iter.Seq[api.Addr] {
	return func(yield func(api.Addr) bool) {
		first, _ := slices.BinarySearchFunc(cells, a.From, addr.Order)
		for _, at := range cells[first:] {
			if addr.Order(at, a.To) > 0 {
				return
			}
			if addr.In(a, at) && !yield(at) {
				return
			}
		}
	}
}

// with are cells that stand in order, and one more at its place.
func with(cells []api.Addr, at api.Addr) []api.Addr {
	place, _ := slices.BinarySearchFunc(cells, at, addr.Order)
	return slices.Insert(cells, place, at)
}
