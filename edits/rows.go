package edits

import (
	"slices"

	"quadrille/api"
)

// way is the puts that lead from some contents to others, as grid's Puts tells them.
type way []api.Put

// rows are the contents behind a book and those ahead of it. Of each is kept the way there from the contents beside it, on the side of the present ones: so a step needs no more memory than what it changes.
type rows struct {
	behind, ahead []way // the nearest ones last
}

// backs is how many contents are behind.
func (r *rows) backs() int { return len(r.behind) }

// agains is how many are ahead.
func (r *rows) agains() int { return len(r.ahead) }

// last is the way to the last contents behind; none, if nothing is.
func (r *rows) last() way {
	if r.backs() == 0 {
		return nil
	}
	return r.behind[r.backs()-1]
}

// step lays a step down, told the way back from it. If that has no puts, the contents are the same, and there is no step.
func (r *rows) step(back way) {
	if len(back) == 0 {
		return
	}
	eldest := max(0, r.backs()+1-api.MaxBack)
	// In new memory, so that a copy of the rows as they were stays what it is.
	r.behind = slices.Concat(r.behind[eldest:], []way{back})
	r.ahead = nil
}
