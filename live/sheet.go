package live

import (
	"cmp"
	"maps"
	"slices"

	"quadrille/api"
	"quadrille/formula"
	"quadrille/grid"
	"quadrille/links"
)

// sheet is the grid of the contents, and what is known of them. What a cell shows and what it uses could be told by the contents alone; it is kept, so that a batch needs little work.
type sheet struct {
	grid.Grid
	links           links.Links            // what the formulas use
	shows           map[api.Addr]api.Value // of each cell that is not empty
	worked, changed []api.Addr             // by the last batch that was taken, in order
}

// fill takes a grid's contents into a sheet that has none. As this is no batch, nothing of it counts as worked out or changed.
func (s *sheet) fill(g *grid.Grid) api.Errno {
	puts := s.Puts(g)
	s.lay(puts) // never refused: the grid has room for what another one has
	order, err := s.order(puts)
	if err != api.OK {
		return err
	}
	s.workOut(puts, order)
	s.worked, s.changed = nil, nil
	return api.OK
}

// take takes a batch each of whose puts may be, or leaves all as it was.
func (s *sheet) take(puts []api.Put) (number int, err api.Errno) {
	present := s.present(puts)
	defer func() {
		if err != api.OK {
			s.lay(present)
		}
	}()
	if err := s.lay(puts); err != api.OK {
		return 0, err
	}
	order, err := s.order(puts)
	if err != api.OK {
		return s.circled(puts), err
	}
	s.workOut(puts, order)
	return 0, api.OK
}

// present are the puts of what a batch's cells have now.
func (s *sheet) present(puts []api.Put) []api.Put {
	list := make([]api.Put, len(puts))
	for i, p := range puts {
		list[i] = api.Put{At: p.At, C: s.Get(p.At)}
	}
	return list
}

// lay puts contents into their cells, and lays down what these use. What shows there is not touched.
func (s *sheet) lay(puts []api.Put) api.Errno {
	// Those that make cells empty go first, whose kind is the least: so there is no room just if there would be none behind the whole batch.
	puts = slices.SortedFunc(slices.Values(puts), func(a, b api.Put) int { return cmp.Compare(a.C.Kind, b.C.Kind) })
	for _, p := range puts {
		if err := s.Put(p.At, p.C); err != api.OK {
			return err
		}
		if p.C.Kind == api.Formula {
			s.links.Set(p.At, formula.Uses(p.C.F)) // never refused: it takes as many cells as a grid, and as many areas as a formula
		} else {
			s.links.Drop(p.At)
		}
	}
	return api.OK
}

// order are the formulas that were put, and all that hang on the cells that were, each behind what it uses. A circle that a batch makes has one of its cells, and so is among these.
func (s *sheet) order(puts []api.Put) ([]api.Addr, api.Errno) {
	var cells, formulas []api.Addr
	for _, p := range puts {
		cells = append(cells, p.At)
		if p.C.Kind == api.Formula {
			formulas = append(formulas, p.At)
		}
	}
	return s.links.Order(append(formulas, s.links.Above(cells...)...))
}

// circled is the number of the first put whose cell hangs on itself.
func (s *sheet) circled(puts []api.Put) int {
	return slices.IndexFunc(puts, func(p api.Put) bool {
		return p.C.Kind == api.Formula && slices.Contains(s.links.Above(p.At), p.At)
	})
}

// copied is another one of the same.
func (s *sheet) copied() sheet {
	return sheet{*s.Clone(), *s.links.Copy(), maps.Clone(s.shows), slices.Clone(s.worked), slices.Clone(s.changed)}
}
