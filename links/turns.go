package links

import (
	"slices"

	"quadrille/addr"
	"quadrille/api"
)

// Order are cells one behind the other, each behind what it uses; of those that may come next the first one.
func (l *Links) Order(at []api.Addr) ([]api.Addr, api.Errno) { return l.Ready(at, nil) }

// Ready goes over such an order by picks: whoever's turn it is of those that may come next.
func (l *Links) Ready(at []api.Addr, picks []int) ([]api.Addr, api.Errno) {
	switch {
	case l == nil:
		return nil, api.ErrArg
	case slices.ContainsFunc(at, isNoCell):
		return nil, api.ErrAddr
	}
	t := l.turns(ordered(at, addr.Order))
	list := make([]api.Addr, len(t.board.cells))
	for k := range list {
		if t.ready.size == 0 {
			return nil, api.ErrCycle
		}
		place := t.ready.nth(pick(picks, k, t.ready.size))
		list[k] = t.board.cells[place]
		t.tell(place)
	}
	return list, api.OK
}

// pick is the number that the pick of a place comes to among so many.
func pick(picks []int, k, size int) int {
	if k >= len(picks) {
		return 0
	}
	// What is left of a number below 0 is not above 0.
	return (picks[k]%size + size) % size
}

// turns are cells that are told one behind the other: which have not been, which of these may be next, and what each of the others waits for.
type turns struct {
	board  *board
	untold marks
	ready  *queue
	waits  []*wait // by the place of what is waited for: the first one that waits for it
}

// wait is a cell that may not be told yet. It waits for one cell at a time, so that no cell that is told has to be held against all areas.
type wait struct {
	place int
	piece piece      // of the area that has what it waits for, up to that
	areas []api.Area // those that have not been looked into
	next  *wait      // another one that waits for the same cell
}

// turns has cells that stand in order, each once, none of them told.
func (l *Links) turns(cells []api.Addr) *turns {
	t := &turns{newBoard(cells), newMarks(len(cells)), newQueue(len(cells)), make([]*wait, len(cells))}
	for place := range cells {
		t.untold.put(place)
	}
	for place, at := range cells {
		t.settle(&wait{place: place, areas: l.uses[at]})
	}
	return t
}

// settle finds something that a cell has to wait for; without it the cell is ready. What is looked for is the last one, as mostly the first ones are told first.
func (t *turns) settle(w *wait) {
	for {
		if last := w.piece.last(t.untold); last >= 0 {
			w.piece.to = last
			w.next, t.waits[last] = t.waits[last], w
			return
		}
		if len(w.areas) == 0 {
			t.ready.add(w.place, 1)
			return
		}
		w.piece, w.areas = t.board.piece(w.areas[0]), w.areas[1:]
	}
}

// tell takes a cell that is ready out of them, and lets those go on that wait for it.
func (t *turns) tell(place int) {
	t.ready.add(place, -1)
	t.untold.drop(place)
	for w := t.waits[place]; w != nil; {
		next := w.next // ahead of settle, by which it waits elsewhere
		t.settle(w)
		w = next
	}
}
