package whole

import (
	"cmp"
	"iter"
	"slices"

	"quadrille/api"
	"quadrille/eval"
	"quadrille/formula"
	"quadrille/grid"
	"quadrille/links"
)

// sheet is a grid that is being worked out. It is the source of its own formulas. A place is that of a cell in its lists; these lists stand beside one another, so that a goroutine that looks for an area's cells reads nothing of cells that others are working out.
type sheet struct {
	at       []api.Addr    // the cells that are not empty, in order
	has      []api.Content // what each of them has
	uses     [][]api.Area  // what each of them uses: a plain one nothing
	shows    []api.Value   // what each of them shows: blank, until that is known
	formulas []api.Addr    // in order
	links    *links.Links  // what these use
}

// sheetOf is a sheet of a grid's contents, none of its formulas worked out.
func sheetOf(g *grid.Grid) *sheet {
	s := &sheet{links: links.New()}
	for at, c := range g.All() {
		uses := formula.Uses(c.F)
		s.at = append(s.at, at)
		s.has = append(s.has, c)
		s.uses = append(s.uses, uses)
		s.shows = append(s.shows, c.V) // a formula's V is blank
		if c.Kind == api.Formula {
			s.formulas = append(s.formulas, at)
			s.links.Set(at, uses) // never refused: a grid has no more cells than links take, and a formula no more areas
		}
	}
	return s
}

// begun is a sheet of a grid, and the places of its formulas in an order in which they can be worked out.
func begun(g *grid.Grid, picks []int) (*sheet, []int, api.Errno) {
	if g == nil {
		return nil, nil, api.ErrArg
	}
	s := sheetOf(g)
	order, err := s.links.Ready(s.formulas, picks)
	var turns []int
	for _, at := range order {
		place, _ := s.find(at)
		turns = append(turns, place)
	}
	return s, turns, err
}

// find is a cell's place, and whether it has one; else where it would be.
func (s *sheet) find(at api.Addr) (int, bool) {
	return slices.BinarySearchFunc(s.at, at, standing)
}

// standing is how two cells stand: by row, then by column.
func standing(a, b api.Addr) int {
	return cmp.Or(cmp.Compare(a.Row, b.Row), cmp.Compare(a.Col, b.Col))
}

// within are the places of an area's cells, rising, from one on.
func (s *sheet) within(a api.Area, from int) iter.Seq[int] {
	return func(yield func(int) bool) {
		first, _ := s.find(a.From)
		for place := max(first, from); place < len(s.at); place++ {
			at := s.at[place]
			if standing(at, a.To) > 0 {
				return
			}
			if at.Col >= a.From.Col && at.Col <= a.To.Col && !yield(place) {
				return
			}
		}
	}
}

// used are the places of what a cell uses; one that is in several of its areas comes as often.
func (s *sheet) used(user int) iter.Seq[int] {
	return func(yield func(int) bool) {
		for _, a := range s.uses[user] {
			for place := range s.within(a, 0) {
				if !yield(place) {
					return
				}
			}
		}
	}
}

// Cell is what a cell shows.
func (s *sheet) Cell(at api.Addr) api.Value {
	place, is := s.find(at)
	if !is {
		return api.Value{}
	}
	return s.shows[place]
}

// Each goes over the cells of an area that show something: as all that a formula uses has been worked out ahead of it, those are all that are not empty.
func (s *sheet) Each(a api.Area) iter.Seq2[api.Addr, api.Value] {
	return func(yield func(api.Addr, api.Value) bool) {
		for place := range s.within(a, 0) {
			if !yield(s.at[place], s.shows[place]) {
				return
			}
		}
	}
}

// worked is what a formula comes to. No error can come: a grid's formulas may be, and the sheet is no nil source.
func (s *sheet) worked(place int) api.Value {
	v, _ := eval.Eval(s.has[place].F, s)
	return v
}

// workOut works formulas out, one behind the other.
func (s *sheet) workOut(turns []int) {
	for _, place := range turns {
		s.shows[place] = s.worked(place)
	}
}

// cell is a cell as it is told.
func (s *sheet) cell(place int) api.Cell {
	return api.Cell{At: s.at[place], C: s.has[place], V: s.shows[place]}
}

// cells are all of them, in order.
func (s *sheet) cells() []api.Cell {
	list := make([]api.Cell, len(s.at))
	for place := range list {
		list[place] = s.cell(place)
	}
	return list
}

// waves are the formulas by their waves, out of an order in which each stands behind what it uses.
func (s *sheet) waves(turns []int) [][]api.Addr {
	wave := make([]int, len(s.at)) // of a plain cell 0
	count := 0
	for _, user := range turns {
		for place := range s.used(user) {
			wave[user] = max(wave[user], wave[place])
		}
		wave[user]++
		count = max(count, wave[user])
	}
	list := make([][]api.Addr, count)
	for place, at := range s.at {
		if i := wave[place] - 1; i >= 0 {
			list[i] = append(list[i], at)
		}
	}
	return list
}
