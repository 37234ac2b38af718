package links_test

import (
	"slices"
	"testing"

	"quadrille/api"
	"quadrille/links"
)

// P18.1: Set, Drop, Len, Uses.

func TestSetAtTheLimits(t *testing.T) {
	l := links.New()
	for i, at := range cells("A1 IV1 A4096 IV4096 IU4095") {
		mustSet(t, l, at, areas("A1:IV4096"))
		if l.Len() != i+1 {
			t.Errorf("P18.1: Len is %d", l.Len())
		}
		sameAreas(t, "P18.1: Uses", l.Uses(at), areas("A1:IV4096"))
	}
	for _, at := range cells("A1 IV1 A4096 IV4096 IU4095") {
		same(t, "P18.2: Users", l.Users(at), "A1 IV1 IU4095 A4096 IV4096")
		same(t, "P18.2: Above", l.Above(at), "A1 IV1 IU4095 A4096 IV4096")
	}
	for _, at := range cells("IV4096 A1 A4096 IV1 IU4095") {
		if !l.Drop(at) || l.Drop(at) {
			t.Errorf("P18.1: Drop(%v)", at)
		}
	}
	if l.Len() != 0 {
		t.Errorf("P18.1: Len is %d", l.Len())
	}
}

func TestNoCells(t *testing.T) {
	l := linksOf(t, "A1: A1:IV4096", "B2: A1", "IV4096: B2")
	was := told(l, within(3, 3)...)
	for _, at := range noCells() {
		for _, uses := range [][]api.Area{nil, areas("A1"), areas("A1:IV4096")} {
			if err := l.Set(at, uses); err != api.ErrAddr {
				t.Errorf("P18.1: Set(%v): %d", at, err)
			}
		}
		if l.Drop(at) {
			t.Errorf("P18.1: Drop(%v): true", at)
		}
		if got := l.Uses(at); len(got) > 0 {
			t.Errorf("P18.1: Uses(%v): %v", at, got)
		}
		if got := l.Users(at); len(got) > 0 {
			t.Errorf("P18.2: Users(%v): %v", at, got)
		}
		if got := l.Above(at); len(got) > 0 {
			t.Errorf("P18.2: Above(%v): %v", at, got)
		}
		same(t, "P18.2: Above of what is no cell and of one", l.Above(at, cell("B2"), at), "A1 B2 IV4096")
		for _, list := range [][]api.Addr{{at}, {at, cell("C3")}, {cell("C3"), at}, {cell("C3"), at, cell("D4")}, {cell("A1"), at}} {
			if got, err := l.Order(list); err != api.ErrAddr || len(got) > 0 {
				t.Errorf("P18.4: Order(%v): %v, %d", list, got, err)
			}
			if got, err := l.Ready(list, []int{1}); err != api.ErrAddr || len(got) > 0 {
				t.Errorf("P18.4: Ready(%v): %v, %d", list, got, err)
			}
		}
	}
	if told(l, within(3, 3)...) != was {
		t.Error("R2: what was refused has changed something")
	}
}

// manyAreas are so many areas, no two of them the same, in order.
func manyAreas(n int) []api.Area {
	var l []api.Area
	for i := range n {
		l = append(l, api.Area{From: xy(1+i%16, 1+i/16), To: xy(20, 40)})
	}
	return l
}

func TestHowManyAreas(t *testing.T) {
	l := links.New()
	at := cell("C3")
	for _, none := range [][]api.Area{nil, {}, make([]api.Area, 0, 5)} {
		mustSet(t, l, at, none)
		if l.Len() != 1 || len(l.Uses(at)) > 0 {
			t.Errorf("P18.1: set with no areas: %d, %v", l.Len(), l.Uses(at))
		}
	}
	for _, n := range []int{1, 2, 255, 256} {
		mustSet(t, l, at, manyAreas(n))
		sameAreas(t, "P18.1: Uses", l.Uses(at), manyAreas(n))
	}
	same(t, "P18.2: Users", l.Users(xy(20, 1)), "C3")
	for _, n := range []int{257, 258, 1000, 70000} {
		if err := l.Set(at, manyAreas(n)); err != api.ErrMany {
			t.Errorf("P18.1: Set of %d areas: %d", n, err)
		}
		if err := l.Set(cell("D4"), slices.Repeat(areas("A1"), n)); err != api.ErrMany {
			t.Errorf("P18.1: Set of one area %d times: %d", n, err)
		}
	}
	if l.Len() != 1 {
		t.Errorf("P18.1: Len is %d", l.Len())
	}
	sameAreas(t, "P18.1: Uses", l.Uses(at), manyAreas(256))
	mustSet(t, l, at, slices.Repeat(areas("B2:C3"), 256))
	sameAreas(t, "P18.1: Uses of one area 256 times", l.Uses(at), areas("B2:C3"))
}

func TestNoAreas(t *testing.T) {
	l := linksOf(t, "A1: B1:B2", "B1: C1")
	was := told(l, within(4, 4)...)
	for _, bad := range noAreas() {
		one := areas("C1:D9")[0]
		for _, list := range [][]api.Area{{bad}, {bad, one}, {one, bad}, {one, bad, one}, append(manyAreas(255), bad), append([]api.Area{bad}, manyAreas(255)...)} {
			for _, at := range cells("A1 B1 D4 IV4096") {
				if err := l.Set(at, list); err != api.ErrArg {
					t.Errorf("P18.1: Set(%v, %d areas with %v): %d", at, len(list), bad, err)
				}
			}
		}
	}
	if told(l, within(4, 4)...) != was {
		t.Error("R2: what was refused has changed something")
	}
}

func TestUsesInOrder(t *testing.T) {
	l := links.New()
	want := areas("B1 B1:C1 B1:D1 B1:B2 B1:IV4096 C1 C1:C9 A2 A2:B2 A2:A3 A2:B3 B2 IV4095:IV4096 A4096:B4096 IV4096")
	for _, step := range []int{1, 2, 4, 7, 11, 14} {
		for begin := range want {
			var mixed []api.Area
			for i := range want {
				mixed = append(mixed, want[(begin+i*step)%len(want)])
			}
			mustSet(t, l, cell("H8"), slices.Concat(mixed, mixed, mixed[:3]))
			sameAreas(t, "P18.1: Uses", l.Uses(cell("H8")), want)
		}
	}
}

func TestSetInThePlaceOf(t *testing.T) {
	l := linksOf(t, "A1: B1:B2 C1", "B1: C1")
	mustSet(t, l, cell("A1"), areas("D1"))
	sameAreas(t, "P18.1: Uses", l.Uses(cell("A1")), areas("D1"))
	same(t, "P18.2: Users(B2)", l.Users(cell("B2")), "")
	same(t, "P18.2: Users(C1)", l.Users(cell("C1")), "B1")
	same(t, "P18.2: Users(D1)", l.Users(cell("D1")), "A1")
	mustSet(t, l, cell("A1"), nil)
	if l.Len() != 2 || len(l.Uses(cell("A1"))) > 0 || len(l.Users(cell("D1"))) > 0 {
		t.Error("P18.1: areas are left where none are laid down")
	}
	mustSet(t, l, cell("A1"), areas("A1"))
	circle(t, l, "A1")
}

func TestDrop(t *testing.T) {
	l := linksOf(t, "A1: B1", "B1: C1", "C1:")
	for _, text := range []string{"D1", "A2", "IV4096"} {
		if l.Drop(cell(text)) {
			t.Errorf("P18.1: Drop(%s), which is not set: true", text)
		}
	}
	if l.Len() != 3 {
		t.Errorf("P18.1: Len is %d", l.Len())
	}
	same(t, "P18.2: Above(C1)", l.Above(cell("C1")), "A1 B1")
	if !l.Drop(cell("C1")) || l.Drop(cell("C1")) || l.Len() != 2 {
		t.Error("P18.1: Drop of what is set with no areas")
	}
	same(t, "P18.2: Above(C1), which is not set any more", l.Above(cell("C1")), "A1 B1")
	if !l.Drop(cell("B1")) || l.Drop(cell("B1")) || l.Len() != 1 || len(l.Uses(cell("B1"))) > 0 {
		t.Error("P18.1: Drop of what is set")
	}
	same(t, "P18.2: Above(C1)", l.Above(cell("C1")), "")
	same(t, "P18.2: Above(B1)", l.Above(cell("B1")), "A1")
	mustSet(t, l, cell("B1"), areas("C1"))
	same(t, "P18.2: Above(C1)", l.Above(cell("C1")), "A1 B1")
}

// full are links of so many cells, by rows from A1 on, each with the area of the first one.
func full(t *testing.T, n int) *links.Links {
	t.Helper()
	l := links.New()
	for i := range n {
		mustSet(t, l, xy(1+i%256, 1+i/256), areas("A1"))
	}
	return l
}

func TestFull(t *testing.T) {
	l := full(t, 4096)
	if l.Len() != 4096 {
		t.Fatalf("P18.1: Len is %d", l.Len())
	}
	for _, uses := range [][]api.Area{nil, areas("A1"), manyAreas(256)} {
		for _, at := range cells("A17 IV17 IV4096") {
			if err := l.Set(at, uses); err != api.ErrFull {
				t.Errorf("P18.1: Set of one more: %d", err)
			}
			if l.Len() != 4096 || len(l.Uses(at)) > 0 || l.Drop(at) {
				t.Error("R2: what was refused has changed something")
			}
		}
	}
	for _, text := range []string{"A1", "IV16", "C9"} {
		mustSet(t, l, cell(text), areas("IV4096"))
		sameAreas(t, "P18.1: Uses", l.Uses(cell(text)), areas("IV4096"))
	}
	same(t, "P18.2: Users", l.Users(cell("IV4096")), "A1 C9 IV16")
	if !l.Drop(cell("C9")) || l.Len() != 4095 {
		t.Error("P18.1: Drop of one of all")
	}
	mustSet(t, l, cell("IV4096"), nil)
	if err := l.Set(cell("C9"), nil); err != api.ErrFull || l.Len() != 4096 {
		t.Errorf("P18.1: Set of the one that was dropped: %d", err)
	}
	if err := l.Set(cell("IV4096"), areas("C9")); err != api.OK {
		t.Errorf("P18.1: Set of one that is set: %d", err)
	}
}

// TestOrderOfErrors: ErrAddr ahead of ErrMany ahead of ErrArg ahead of ErrFull.
func TestOrderOfErrors(t *testing.T) {
	l := full(t, 4096)
	bad := noAreas()[3]
	manyBad := append(manyAreas(256), bad)
	for _, c := range []struct {
		at   api.Addr
		uses []api.Area
		want api.Errno
	}{
		{xy(257, 1), manyBad, api.ErrAddr}, {xy(257, 1), manyAreas(257), api.ErrAddr}, {xy(0, 0), []api.Area{bad}, api.ErrAddr}, {xy(1, 4097), nil, api.ErrAddr},
		{cell("A17"), manyBad, api.ErrMany}, {cell("A1"), manyBad, api.ErrMany}, {cell("A17"), manyAreas(257), api.ErrMany}, {cell("A1"), slices.Repeat([]api.Area{bad}, 257), api.ErrMany},
		{cell("A17"), []api.Area{bad}, api.ErrArg}, {cell("A1"), []api.Area{bad}, api.ErrArg}, {cell("A17"), append(manyAreas(255), bad), api.ErrArg},
		{cell("A17"), manyAreas(256), api.ErrFull}, {cell("A1"), manyAreas(256), api.OK},
	} {
		if err := l.Set(c.at, c.uses); err != c.want {
			t.Errorf("P18.1: Set(%v, %d areas): %d, not %d", c.at, len(c.uses), err, c.want)
		}
	}
}

func TestNil(t *testing.T) {
	var l *links.Links
	for _, at := range append(cells("A1 IV4096"), noCells()...) {
		if err := l.Set(at, areas("A1")); err != api.ErrArg {
			t.Errorf("R1: Set of nil: %d", err)
		}
		if err := l.Set(at, manyAreas(257)); err != api.ErrArg {
			t.Errorf("R1: Set of nil: %d", err)
		}
		if l.Drop(at) || len(l.Uses(at)) > 0 || len(l.Users(at)) > 0 || len(l.Above(at)) > 0 {
			t.Error("R1: a nil one tells something")
		}
		if got, err := l.Order([]api.Addr{at}); err != api.ErrArg || len(got) > 0 {
			t.Errorf("R1: Order of nil: %v, %d", got, err)
		}
		if got, err := l.Ready([]api.Addr{at}, []int{1}); err != api.ErrArg || len(got) > 0 {
			t.Errorf("R1: Ready of nil: %v, %d", got, err)
		}
	}
	if _, err := l.Order(nil); err != api.ErrArg {
		t.Errorf("R1: Order of nil: %d", err)
	}
	if got, is := l.Circle(); is || len(got) > 0 {
		t.Errorf("R1: Circle of nil: %v, %v", got, is)
	}
	if l.Len() != 0 || l.Copy() != nil || len(l.Above()) > 0 {
		t.Error("R1: a nil one tells something")
	}
}

// TestNewAndZero: one of New, a zero one, and a Copy of either have nothing, and take what comes.
func TestNewAndZero(t *testing.T) {
	for _, l := range []*links.Links{links.New(), {}, links.New().Copy(), (&links.Links{}).Copy()} {
		if l.Len() != 0 || l.Drop(cell("A1")) || len(l.Uses(cell("A1"))) > 0 || len(l.Users(cell("A1"))) > 0 || len(l.Above(within(2, 2)...)) > 0 {
			t.Error("P18.1: a new one has something")
		}
		circle(t, l, "")
		order(t, l, "B1 A1 B1", "A1 B1")
		mustSet(t, l, cell("A1"), areas("A1"))
		circle(t, l, "A1")
	}
}
