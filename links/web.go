package links

import (
	"maps"
	"slices"

	"quadrille/addr"
	"quadrille/api"
)

// web is which of the cells that are set use which of them.
type web struct {
	cells []api.Addr // in order
	users []marks    // of each cell those that use it
}

func (l *Links) web() *web {
	cells := slices.SortedFunc(maps.Keys(l.uses), addr.Order)
	w := &web{cells, manyMarks(len(cells), len(cells))}
	b := newBoard(cells)
	used := newMarks(len(cells))
	for user, at := range cells {
		clear(used)
		for _, a := range l.uses[at] {
			b.piece(a).addTo(used)
		}
		for place := range used.all() {
			w.users[place].put(user)
		}
	}
	return w
}

// place is where a cell that is set stands.
func (w *web) place(at api.Addr) int {
	n, _ := slices.BinarySearchFunc(w.cells, at, addr.Order)
	return n
}

// Above are all cells that hang on one of these.
func (l *Links) Above(at ...api.Addr) []api.Addr {
	if l == nil {
		return nil
	}
	// What is handed in need not be set, so that the web may not have it: the walks begin with its users.
	b := newBoard(slices.DeleteFunc(ordered(at, addr.Order), isNoCell))
	users := l.whose(b.hasSome)
	if len(users) == 0 {
		return nil
	}
	w := l.web()
	found := newMarks(len(w.cells))
	var walk func(place int)
	walk = func(place int) {
		if found.has(place) {
			return
		}
		found.put(place)
		for user := range w.users[place].all() {
			walk(user)
		}
	}
	for _, user := range users {
		walk(w.place(user))
	}
	return w.list(found)
}

// list are the cells of some places.
func (w *web) list(m marks) []api.Addr {
	var list []api.Addr
	for place := range m.all() {
		list = append(list, w.cells[place])
	}
	return list
}
