package links

import "quadrille/api"

// Circle is a circle, if there is one.
func (l *Links) Circle() ([]api.Addr, bool) {
	if l == nil {
		return nil, false
	}
	w := l.web()
	for first := range w.circled().all() {
		return w.circle(first), true
	}
	return nil, false
}

// circled are the cells that hang on themselves. The web is walked over once: cells that hang on one another are met one behind the other, and are known for a group when the first of them is left (so Tarjan finds them).
func (w *web) circled() marks {
	circled := newMarks(len(w.cells))
	met := make([]int, len(w.cells)) // the number by which each was met, from 1 on; one beyond all of these, once its group is known
	var open []int                   // those that were met and whose group is not known yet
	count := 0
	var walk func(place int) int
	walk = func(place int) int { // the least number of what is open that it leads to
		count++
		number, least, begin := count, count, len(open)
		met[place] = number
		open = append(open, place)
		for user := range w.users[place].all() {
			back := met[user]
			if back == 0 {
				back = walk(user)
			}
			least = min(least, back)
		}
		if least < number {
			return least
		}
		group := open[begin:]
		for _, one := range group {
			met[one] = len(w.cells) + 1
			if len(group) > 1 || w.users[one].has(one) {
				circled.put(one)
			}
		}
		open = open[:begin]
		return number
	}
	for place := range w.cells {
		if met[place] == 0 {
			walk(place)
		}
	}
	return circled
}

// circle is the shortest circle that begins with a cell that hangs on itself, of those the one whose next cells stand first.
func (w *web) circle(first int) []api.Addr {
	steps := make([]int, len(w.cells)) // the fewest that lead from each to the first one; 0, where none are known
	line := []int{first}
	left := 0
search:
	for i := 0; i < len(line); i++ {
		left = steps[line[i]]
		for user := range w.users[line[i]].all() {
			if user == first {
				break search
			}
			if steps[user] == 0 {
				steps[user] = left + 1
				line = append(line, user)
			}
		}
	}
	list := []api.Addr{w.cells[first]}
	for place := first; left > 0; left-- {
		place = w.used(place, steps, left)
		list = append(list, w.cells[place])
	}
	return list
}

// used is the first cell that a user uses and from which just so many steps are left.
func (w *web) used(user int, steps []int, left int) int {
	for place := range w.cells {
		if steps[place] == left && w.users[place].has(user) {
			return place
		}
	}
	return user // none: a circle's cell always uses one from which there is a step less
}
