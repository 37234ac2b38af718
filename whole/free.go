package whole

import (
	"sync"

	"quadrille/api"
	"quadrille/grid"
)

// mostWorkers is how many goroutines may work side by side.
const mostWorkers = 64

// Free works it out by so many goroutines.
func Free(g *grid.Grid, workers int) ([]api.Cell, api.Errno) {
	if workers < 1 || workers > mostWorkers {
		return nil, api.ErrArg
	}
	s, turns, err := begun(g, nil)
	if err != api.OK {
		return nil, err
	}
	s.workSideBySide(turns, workers)
	return s.cells(), api.OK
}

// outcome is what a formula came to.
type outcome struct {
	place int
	v     api.Value
}

// workSideBySide works formulas out that could be worked out one behind the other. What they come to is written down here alone, ahead of sending out whoever uses it: so each goroutine finds what it reads.
func (s *sheet) workSideBySide(turns []int, workers int) {
	// There is room for all formulas, so that neither side ever waits for the other one to listen.
	ready := make(chan int, len(turns))
	outcomes := make(chan outcome, len(turns))
	var crew sync.WaitGroup
	crew.Add(workers)
	for range workers {
		go func() {
			defer crew.Done()
			for place := range ready {
				outcomes <- outcome{place, s.worked(place)}
			}
		}()
	}
	w := waiting{s, ready, make([][]wait, len(s.at))}
	w.begin(turns)
	for range turns {
		o := <-outcomes
		s.shows[o.place] = o.v
		w.goOn(o.place)
	}
	close(ready)
	crew.Wait()
}

// waiting are the formulas that can't be worked out yet; the others go out at once.
type waiting struct {
	*sheet
	ready chan<- int
	waits [][]wait // by the place of what is waited for
}

// wait is a formula that waits for one cell at a time: the areas that have not been looked through, the first one of them up to a place.
type wait struct {
	place int
	areas []api.Area
	upTo  int
}

// begin sends out what may be worked out from the beginning on. Each of the others waits for the one of those it uses that would be the last one, were they worked out one by one: mostly none is left to wait for behind it.
func (w waiting) begin(turns []int) {
	turn := make([]int, len(w.at)) // from 1 on; of a plain cell 0
	for i, user := range turns {
		turn[user] = i + 1
		last := 0
		for place := range w.used(user) {
			last = max(last, turn[place])
		}
		if last == 0 {
			w.ready <- user
			continue
		}
		used := turns[last-1]
		w.waits[used] = append(w.waits[used], wait{place: user, areas: w.uses[user]})
	}
}

// goOn looks anew at all that waited for a cell.
func (w waiting) goOn(place int) {
	for _, one := range w.waits[place] {
		w.settle(one)
	}
	w.waits[place] = nil
}

// settle has a formula wait for something that it uses and that has not been worked out; without it the formula goes out.
func (w waiting) settle(one wait) {
	for ; len(one.areas) > 0; one.areas, one.upTo = one.areas[1:], 0 {
		for place := range w.within(one.areas[0], one.upTo) {
			if w.shows[place].Kind == api.Blank {
				one.upTo = place
				w.waits[place] = append(w.waits[place], one)
				return
			}
		}
	}
	w.ready <- one.place
}
