package links_test

import (
	"fmt"
	"maps"
	"math/rand"
	"slices"
	"testing"

	"quadrille/api"
	"quadrille/links"
)

// model is what is set, as chapter 18 says it: each cell with its areas as they were handed in.
type model map[api.Addr][]api.Area

func standing(a, b api.Addr) int { return (a.Row-b.Row)*1000 + a.Col - b.Col }

func isCell(at api.Addr) bool {
	return at.Col >= 1 && at.Col <= 256 && at.Row >= 1 && at.Row <= 4096
}

func isArea(a api.Area) bool {
	return isCell(a.From) && isCell(a.To) && a.From.Col <= a.To.Col && a.From.Row <= a.To.Row
}

// set is Set by the chapter's words.
func (m model) set(at api.Addr, uses []api.Area) api.Errno {
	_, is := m[at]
	switch {
	case !isCell(at):
		return api.ErrAddr
	case len(uses) > 256:
		return api.ErrMany
	}
	for _, a := range uses {
		if !isArea(a) {
			return api.ErrArg
		}
	}
	if !is && len(m) == 4096 {
		return api.ErrFull
	}
	m[at] = slices.Clone(uses)
	return api.OK
}

func (m model) areas(at api.Addr) []api.Area {
	var l []api.Area
	for _, a := range m[at] {
		if !slices.Contains(l, a) {
			l = append(l, a)
		}
	}
	slices.SortFunc(l, func(a, b api.Area) int {
		if a.From != b.From {
			return standing(a.From, b.From)
		}
		return standing(a.To, b.To)
	})
	return l
}

func (m model) uses(user, at api.Addr) bool {
	for _, a := range m[user] {
		if a.From.Col <= at.Col && at.Col <= a.To.Col && a.From.Row <= at.Row && at.Row <= a.To.Row {
			return true
		}
	}
	return false
}

// set cells, in order.
func (m model) cells() []api.Addr { return slices.SortedFunc(maps.Keys(m), standing) }

func (m model) users(at api.Addr) []api.Addr {
	var l []api.Addr
	for _, user := range m.cells() {
		if m.uses(user, at) {
			l = append(l, user)
		}
	}
	return l
}

// above goes on from users to users of users till there is nothing new.
func (m model) above(at ...api.Addr) []api.Addr {
	found := map[api.Addr]bool{}
	for len(at) > 0 {
		var next []api.Addr
		for _, one := range at {
			for _, user := range m.users(one) {
				if !found[user] {
					found[user] = true
					next = append(next, user)
				}
			}
		}
		at = next
	}
	return slices.SortedFunc(maps.Keys(found), standing)
}

// circle tries all lists of one cell, then of two and so on, in the order of their cells.
func (m model) circle() ([]api.Addr, bool) {
	list := m.cells()
	for _, first := range list {
		if !slices.Contains(m.above(first), first) {
			continue
		}
		var grow func(c []api.Addr, more int) []api.Addr
		grow = func(c []api.Addr, more int) []api.Addr {
			last := c[len(c)-1]
			if more == 0 {
				if m.uses(last, first) {
					return c
				}
				return nil
			}
			for _, at := range list {
				if m.uses(last, at) && !slices.Contains(c, at) {
					if found := grow(append(slices.Clone(c), at), more-1); found != nil {
						return found
					}
				}
			}
			return nil
		}
		for n := range list {
			if c := grow([]api.Addr{first}, n); c != nil {
				return c, true
			}
		}
	}
	return nil, false
}

// circleBySteps is the same for many cells: by the cells from which just so many steps lead to the first one.
func (m model) circleBySteps() ([]api.Addr, bool) {
	list := m.cells()
	for _, first := range list {
		if !slices.Contains(m.above(first), first) {
			continue
		}
		steps := [][]api.Addr{{first}}
		for n := 0; n == 0 || !slices.Contains(steps[n], first); n++ {
			var farther []api.Addr
			for _, at := range list {
				if slices.ContainsFunc(steps[n], func(used api.Addr) bool { return m.uses(at, used) }) {
					farther = append(farther, at)
				}
			}
			steps = append(steps, farther)
		}
		c := []api.Addr{first}
		for n := len(steps) - 2; n > 0; n-- {
			i := slices.IndexFunc(steps[n], func(used api.Addr) bool { return m.uses(c[len(c)-1], used) })
			c = append(c, steps[n][i])
		}
		return c, true
	}
	return nil, false
}

// ready asks at each step every cell that is left against every other one.
func (m model) ready(at []api.Addr, picks []int) ([]api.Addr, api.Errno) {
	for _, one := range at {
		if !isCell(one) {
			return nil, api.ErrAddr
		}
	}
	left := slices.Clone(at)
	slices.SortFunc(left, standing)
	left = slices.Compact(left)
	var told []api.Addr
	for k := 0; len(left) > 0; k++ {
		var may []api.Addr
		for _, one := range left {
			if !slices.ContainsFunc(left, func(used api.Addr) bool { return m.uses(one, used) }) {
				may = append(may, one)
			}
		}
		if len(may) == 0 {
			return nil, api.ErrCycle
		}
		next := may[0]
		if k < len(picks) {
			next = may[((picks[k]%len(may))+len(may))%len(may)]
		}
		told = append(told, next)
		left = slices.DeleteFunc(left, func(one api.Addr) bool { return one == next })
	}
	return told, api.OK
}

// maker makes cells, areas and picks by chance, within some columns and rows from one cell on.
type maker struct {
	*rand.Rand
	from       api.Addr
	cols, rows int
	wide       int // of how many columns and rows areas are, at most
	wrong      int // one of so many is no cell, no area; never by 0
}

func (m maker) isWrong() bool { return m.wrong > 0 && m.Intn(m.wrong) == 0 }

func (m maker) cell() api.Addr {
	if m.isWrong() {
		return noCells()[m.Intn(len(noCells()))]
	}
	return xy(m.from.Col+m.Intn(m.cols), m.from.Row+m.Intn(m.rows))
}

func (m maker) area() api.Area {
	if m.isWrong() {
		return noAreas()[m.Intn(len(noAreas()))]
	}
	from := xy(m.from.Col+m.Intn(m.cols), m.from.Row+m.Intn(m.rows))
	return api.Area{From: from, To: xy(min(from.Col+m.Intn(m.wide), 256), min(from.Row+m.Intn(m.wide), 4096))}
}

func (m maker) areas(most int) []api.Area {
	var l []api.Area
	for range m.Intn(most + 1) {
		l = append(l, m.area())
		if m.Intn(5) == 0 {
			l = append(l, l[m.Intn(len(l))])
		}
	}
	return l
}

func (m maker) list(most int) []api.Addr {
	var l []api.Addr
	for range m.Intn(most + 1) {
		l = append(l, m.cell())
	}
	return l
}

func (m maker) picks(most int) []int {
	var l []int
	for range m.Intn(most + 1) {
		l = append(l, []int{m.Intn(9) - 4, m.Int(), -m.Int(), least, greatest, -1, 0}[m.Intn(7)])
	}
	return l
}

// step sets or drops a cell in links and in their model.
func (m maker) step(t *testing.T, l *links.Links, w model, most int) api.Errno {
	t.Helper()
	at := m.cell()
	if m.Intn(5) == 0 {
		_, is := w[at]
		delete(w, at)
		if l.Drop(at) != is {
			t.Fatalf("P18.1: Drop(%v) is not %v", at, is)
		}
		return api.OK
	}
	uses := m.areas(most)
	want := w.set(at, uses)
	if err := l.Set(at, uses); err != want {
		t.Fatalf("P18.1: Set(%v, %v): %d, not %d", at, uses, err, want)
	}
	return want
}

// check holds what links tell against their model.
func (m maker) check(t *testing.T, about string, l *links.Links, w model, wantCircle func() ([]api.Addr, bool)) {
	t.Helper()
	if l.Len() != len(w) {
		t.Errorf("P18.1: %s: Len is %d, not %d", about, l.Len(), len(w))
	}
	for range 5 {
		at := m.cell()
		sameAreas(t, "P18.1: "+about+": Uses", l.Uses(at), w.areas(at))
		sameCells(t, "P18.2: "+about+": Users", l.Users(at), w.users(at))
		sameCells(t, "P18.2: "+about+": Above", l.Above(at), w.above(at))
		list, picks := m.list(m.cols*m.rows), m.picks(m.cols*m.rows)
		sameCells(t, "P18.2: "+about+": Above of some", l.Above(list[:len(list)/2]...), w.above(list[:len(list)/2]...))
		m.checkReady(t, about, l, w, list, picks)
	}
	m.checkReady(t, about, l, w, w.cells(), m.picks(9))
	got, is := l.Circle()
	want, wantIs := wantCircle()
	sameCells(t, "P18.3: "+about+": Circle", got, want)
	if is != wantIs {
		t.Errorf("P18.3: %s: Circle is %v", about, is)
	}
}

func (m maker) checkReady(t *testing.T, about string, l *links.Links, w model, list []api.Addr, picks []int) {
	t.Helper()
	got, err := l.Ready(list, picks)
	want, wantErr := w.ready(list, picks)
	if err != wantErr {
		t.Errorf("P18.4: %s: Ready(%s; %v): %d, not %d", about, names(list), picks, err, wantErr)
	}
	sameCells(t, fmt.Sprintf("P18.4: %s: Ready(%s; %v)", about, names(list), picks), got, want)
	got, err = l.Order(list)
	want, wantErr = w.ready(list, nil)
	if err != wantErr {
		t.Errorf("P18.4: %s: Order(%s): %d, not %d", about, names(list), err, wantErr)
	}
	sameCells(t, fmt.Sprintf("P18.4: %s: Order(%s)", about, names(list)), got, want)
}

func TestSmallByChance(t *testing.T) {
	errs := map[api.Errno]int{}
	rings := map[int]int{}
	r := rand.New(rand.NewSource(181))
	for i := range 150 {
		m := maker{r, xy(1, 1), 1 + r.Intn(4), 1 + r.Intn(3), 1 + r.Intn(3), 60}
		if i%3 == 0 {
			m.from = xy(257-m.cols, 4097-m.rows)
		}
		l, w := links.New(), model{}
		for j := range 40 {
			errs[m.step(t, l, w, 2)]++
			about := fmt.Sprintf("links %d, step %d", i, j)
			m.check(t, about, l, w, w.circle)
			c, _ := l.Circle()
			rings[len(c)]++
			if t.Failed() {
				return
			}
		}
	}
	if errs[api.OK] < 1000 || errs[api.ErrArg] < 20 || errs[api.ErrAddr] < 20 || rings[0] < 500 || rings[1] < 500 || rings[2] < 100 || rings[3] < 30 || rings[4]+rings[5]+rings[6] < 10 {
		t.Errorf("too few of a sort: %v, circles of %v", errs, rings)
	}
}

// TestGreatByChance: more cells than a word has bits, mostly without circles, as areas are of rows ahead.
func TestGreatByChance(t *testing.T) {
	r := rand.New(rand.NewSource(182))
	rings := map[int]int{}
	for i := range 16 {
		m := maker{r, xy(1+r.Intn(200), 1+r.Intn(4000)), 5 + r.Intn(12), 10 + r.Intn(12), 1 + r.Intn(6), 0}
		l, w := links.New(), model{}
		for range 300 {
			at := m.cell()
			var uses []api.Area
			for _, a := range m.areas(3) {
				if a.To.Row < at.Row || r.Intn(60) == 0 {
					uses = append(uses, a)
				}
			}
			mustSet(t, l, at, uses)
			w.set(at, uses)
		}
		m.check(t, fmt.Sprintf("great links %d", i), l, w, w.circleBySteps)
		c, _ := l.Circle()
		rings[len(c)]++
		if t.Failed() {
			return
		}
	}
	if rings[0] < 3 || rings[0]+rings[1] > 13 {
		t.Errorf("too few of a sort: circles of %v", rings)
	}
}

// TestEdgesOfWords: columns of cells, areas that begin and end at each place.
func TestEdgesOfWords(t *testing.T) {
	for _, n := range []int{1, 2, 63, 64, 65, 66, 127, 128, 129, 192} {
		l := links.New()
		var list []api.Addr
		for i := range n {
			list = append(list, xy(3, 10+i))
		}
		for _, from := range []int{0, 1, 62, 63, 64, 65, 126, 127, 128, n - 2, n - 1} {
			for _, to := range []int{from, from + 1, 63, 64, 127, 128, n - 1} {
				if from < 0 || from > to || to >= n {
					continue
				}
				// One cell left of them uses some; each of these uses nothing.
				user := xy(1, 1)
				uses := []api.Area{{From: list[from], To: list[to]}}
				for _, at := range list {
					mustSet(t, l, at, nil)
				}
				mustSet(t, l, user, uses)
				want := slices.Insert(slices.Clone(list), to+1, user)
				got, err := l.Order(append([]api.Addr{user}, list...))
				if err != api.OK {
					t.Errorf("P18.4: error %d", err)
				}
				sameCells(t, fmt.Sprintf("P18.4: Order of %d cells, the user of %d to %d", n, from, to), got, want)
				for i, at := range list {
					if users := l.Above(at); len(users) > 0 != (from <= i && i <= to) {
						t.Fatalf("P18.2: Above of the %d. of %d, the user of %d to %d: %s", i, n, from, to, names(users))
					}
				}
				// And a circle is there just if one of these uses the user.
				for _, i := range []int{0, from - 1, from, to, to + 1, n - 1} {
					if i < 0 || i >= n {
						continue
					}
					mustSet(t, l, list[i], areas("A1"))
					want := []api.Addr{user, list[i]}
					if i < from || i > to {
						want = nil
					}
					got, _ := l.Circle()
					sameCells(t, fmt.Sprintf("P18.3: Circle of the %d. of %d, the user of %d to %d", i, n, from, to), got, want)
					mustSet(t, l, list[i], nil)
				}
			}
		}
	}
}
