package edits

import (
	"slices"

	"quadrille/api"
	"quadrille/grid"
	"quadrille/live"
)

// change lays a step down and has the sheet led there. If that is refused, the rows are put right again.
func (b *Book) change(lead func(puts ...api.Put) (int, api.Errno), puts []api.Put) (number int, err api.Errno) {
	was := b.rows
	defer func() {
		if err != api.OK {
			b.rows = was
		}
	}()
	b.step(b.wayBack(puts)) // ahead of lead: the sheet must still have what is to be led back to
	return lead(puts...)
}

// wayBack is what leads to the present contents from those to which some puts lead. Of puts that are going to be refused it may be anything.
func (b *Book) wayBack(puts []api.Put) way {
	now, then := grid.New(), grid.New() // no more than the cells that are put
	for _, p := range puts {
		now.Put(p.At, b.present().Content(p.At))
		then.Put(p.At, p.C)
	}
	return then.Puts(now)
}

// lead leads the sheet to other contents, by however many puts.
func (b *Book) lead(puts ...api.Put) (int, api.Errno) {
	if len(puts) <= api.MaxBatch {
		return b.present().Set(puts...)
	}
	// Not batch by batch: between two of them there may be a circle, or no room.
	s, err := live.From(b.behindPuts(puts))
	if err != api.OK {
		return 0, err
	}
	b.sheet = s
	return 0, api.OK
}

// behindPuts has the contents to which puts lead.
func (b *Book) behindPuts(puts []api.Put) *grid.Grid {
	g := b.present().Grid()
	// All their cells are made empty first: so there is room for each, in whichever order they stand.
	for _, p := range puts {
		g.Put(p.At, api.Content{})
	}
	for _, p := range puts {
		g.Put(p.At, p.C)
	}
	return g
}

// pass goes to the nearest contents of one row; the present ones are then the nearest of the other one.
func (b *Book) pass(from, to *[]way) api.Errno {
	nearest := len(*from) - 1
	if nearest < 0 {
		return api.ErrBack
	}
	puts := (*from)[nearest]
	*to = append(*to, b.wayBack(puts))
	*from = slices.Delete(*from, nearest, nearest+1)
	b.lead(puts...) // never refused: the book had these contents before
	return api.OK
}
