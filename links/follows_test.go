package links_test

import (
	"fmt"
	"math/rand"
	"slices"
	"testing"

	"quadrille/addr"
	"quadrille/api"
	"quadrille/links"
)

// P18.6: what follows.

// some are links by chance, their model, and who made them.
func some(t *testing.T, seed int64) (*links.Links, model, maker) {
	t.Helper()
	m := maker{rand.New(rand.NewSource(seed)), xy(1, 1), 6, 6, 3, 0}
	l, w := links.New(), model{}
	for range 1 + m.Intn(40) {
		m.step(t, l, w, 2)
	}
	return l, w, m
}

// TestUsersAreThoseOfAreas: a cell stands in Users of each cell of its areas, and of no other one.
func TestUsersAreThoseOfAreas(t *testing.T) {
	for seed := range int64(30) {
		l, w, _ := some(t, seed)
		for _, user := range w.cells() {
			for _, at := range within(9, 9) {
				has := slices.ContainsFunc(l.Uses(user), func(a api.Area) bool { return addr.In(a, at) })
				if slices.Contains(l.Users(at), user) != has {
					t.Errorf("P18.6: %v stands in Users(%v): %v", user, at, !has)
				}
			}
		}
	}
}

// TestAboveIsUsersAndAboveThem: Above of one cell has its Users, and Above of these.
func TestAboveIsUsersAndAboveThem(t *testing.T) {
	for seed := range int64(60) {
		l, _, _ := some(t, seed)
		for _, at := range within(9, 9) {
			users := l.Users(at)
			want := append(l.Above(users...), users...)
			slices.SortFunc(want, addr.Order)
			sameCells(t, "P18.6: Above", l.Above(at), slices.Compact(want))
		}
	}
}

// TestCircleIsWhatOrderRefuses: there is a circle just if Order of all cells that are set is refused; and it is one.
func TestCircleIsWhatOrderRefuses(t *testing.T) {
	count := 0
	for seed := range int64(300) {
		l, w, _ := some(t, seed)
		c, is := l.Circle()
		got, err := l.Order(w.cells())
		if is != (err == api.ErrCycle) || is != (len(got) < len(w)) || is != (len(c) > 0) {
			t.Errorf("P18.6: a circle: %v; Order: %d", is, err)
		}
		for i, at := range c {
			if _, set := w[at]; !set || !w.uses(at, c[(i+1)%len(c)]) || slices.Index(c, at) != i {
				t.Errorf("P18.3: %s is no circle", names(c))
			}
		}
		if is {
			count++
			if first := w.cells(); slices.ContainsFunc(first[:slices.Index(first, c[0])], func(at api.Addr) bool { return slices.Contains(l.Above(at), at) }) {
				t.Errorf("P18.3: an earlier cell than %v hangs on itself", c[0])
			}
		}
	}
	if count < 50 || count > 250 {
		t.Errorf("too few of a sort: %d of 300 with circles", count)
	}
}

// TestEachBehindWhatItUses: in what Order and Ready tell each cell stands behind each one of them that it uses, and it has just the cells that were handed in.
func TestEachBehindWhatItUses(t *testing.T) {
	count := 0
	for seed := range int64(300) {
		l, w, m := some(t, seed)
		list := m.list(30)
		for _, picks := range [][]int{nil, {-1, -1, -1}, m.picks(40)} {
			got, err := l.Ready(list, picks)
			if err != api.OK {
				continue
			}
			count++
			for i, at := range got {
				for _, behind := range got[i:] {
					if w.uses(at, behind) {
						t.Errorf("P18.6: %v stands ahead of %v, which it uses", at, behind)
					}
				}
			}
			slices.SortFunc(got, addr.Order)
			want := slices.Clone(list)
			slices.SortFunc(want, addr.Order)
			sameCells(t, "P18.6: what Ready tells", got, slices.Compact(want))
		}
	}
	if count < 200 {
		t.Errorf("too few of a sort: %d orders", count)
	}
}

// TestSetAndBack: Set, and Set of what it was, or Drop, leaves all as it was; what is refused does too.
func TestSetAndBack(t *testing.T) {
	for seed := range int64(40) {
		l, w, m := some(t, seed)
		at := within(6, 6)
		was := told(l, at...)
		for range 20 {
			one := m.cell()
			_, is := w[one]
			uses := l.Uses(one)
			mustSet(t, l, one, m.areas(3))
			if m.Intn(3) == 0 {
				l.Drop(one)
			}
			if is {
				mustSet(t, l, one, uses)
			} else {
				l.Drop(one)
			}
			l.Set(one, append(m.areas(3), api.Area{}))
			l.Set(one, make([]api.Area, 257))
			l.Set(xy(0, 1), nil)
			if told(l, at...) != was {
				t.Fatal("P18.6: Set and Set of what it was, or Drop, leaves something else")
			}
		}
	}
}

// TestInOtherOrders: what is set in another order tells the same.
func TestInOtherOrders(t *testing.T) {
	for seed := range int64(30) {
		l, w, m := some(t, seed)
		was := told(l, within(6, 6)...)
		for range 4 {
			list := w.cells()
			m.Shuffle(len(list), func(i, j int) { list[i], list[j] = list[j], list[i] })
			o := links.New()
			for _, at := range list {
				uses := slices.Clone(w[at])
				m.Shuffle(len(uses), func(i, j int) { uses[i], uses[j] = uses[j], uses[i] })
				mustSet(t, o, at, uses)
			}
			if told(o, within(6, 6)...) != was {
				t.Fatal("R4: what is set in another order tells something else")
			}
		}
		for i := range 3 {
			if again := told(l, within(6, 6)...); again != was {
				t.Fatal(fmt.Sprint("R4: asked again it tells something else: ", i))
			}
		}
	}
}
