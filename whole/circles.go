package whole

import (
	"math"

	"quadrille/api"
)

// walk goes from the cells to what they use, and finds the groups of cells that hang on one another.
type walk struct {
	*sheet
	count int
	met   []int  // the number by which each cell was met, from 1 on; beyond all of these, once its group is known
	open  []int  // the cells that were met and whose group is not known, as they were met
	heads []int  // those of them with which a group may begin: no one behind them is known to use one ahead of them
	ring  []bool // which cells hang on themselves
}

// circled are the cells that hang on themselves, in order.
func (s *sheet) circled() []api.Addr {
	w := &walk{sheet: s, met: make([]int, len(s.at)), ring: make([]bool, len(s.at))}
	for place := range s.at {
		if w.met[place] == 0 {
			w.from(place)
		}
	}
	var list []api.Addr
	for place, is := range w.ring {
		if is {
			list = append(list, s.at[place])
		}
	}
	return list
}

// from walks on from a cell that is met for the first time.
func (w *walk) from(user int) {
	w.count++
	w.met[user] = w.count
	begin := len(w.open)
	w.open = append(w.open, user)
	w.heads = append(w.heads, user)
	for place := range w.used(user) {
		if w.met[place] == 0 {
			w.from(place)
		}
		if place == user {
			w.ring[user] = true
		}
		w.leadBack(place)
	}
	if last := len(w.heads) - 1; w.heads[last] == user {
		w.heads = w.heads[:last]
		w.know(begin)
	}
}

// leadBack takes a way to a cell that is open: with none of those that were met behind it a group begins.
func (w *walk) leadBack(place int) {
	last := len(w.heads) - 1
	for w.met[w.heads[last]] > w.met[place] {
		last--
	}
	w.heads = w.heads[:last+1]
}

// know takes the cells that are open from one on for a group: each hangs on each, if there are several.
func (w *walk) know(begin int) {
	group := w.open[begin:]
	for _, place := range group {
		w.met[place] = math.MaxInt
		if len(group) > 1 {
			w.ring[place] = true
		}
	}
	w.open = w.open[:begin]
}
