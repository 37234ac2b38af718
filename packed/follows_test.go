package packed_test

import (
	"math/rand"
	"strings"
	"testing"

	"quadrille/addr"
	"quadrille/api"
	"quadrille/grid"
	"quadrille/lines"
	"quadrille/packed"
)

// P24.5: what follows for files.

func TestThereAndBack(t *testing.T) {
	r := chance{rand.New(rand.NewSource(1))}
	for range 6000 {
		g := r.grid(8)
		s, err := packed.Pack(g)
		h, no := packed.Unpack(s)
		if err != api.OK || no != api.OK || toldGrid(h) != toldGrid(g) || !g.Equal(h) {
			t.Fatalf("P24.5: Unpack of Pack: %s, errors %d, %d, not %s", short(toldGrid(h)), err, no, short(toldGrid(g)))
		}
		if again, err := packed.Pack(h); err != api.OK || again != s {
			t.Fatalf("P24.5: Pack of Unpack(%x): %x, error %d", s, again, err)
		}
		i := r.Intn(len(s))
		turned := s[:i] + string([]byte{s[i] ^ byte(1+r.Intn(255))}) + s[i+1:]
		if h, err := packed.Unpack(turned); h != nil || err == api.OK {
			t.Fatalf("P24.5: the byte %d of %x turned, and it is read: %s", i, s, short(toldGrid(h)))
		}
	}
}

// Two grids have one file just if they are Equal, however they came to be.
func TestOneFile(t *testing.T) {
	r := chance{rand.New(rand.NewSource(2))}
	alike := 0
	for range 8000 {
		g := r.grid(3)
		h := grid.New()
		var l []api.Put
		for at, c := range g.All() {
			l = append(l, api.Put{At: at, C: c})
		}
		for _, i := range r.Perm(len(l)) {
			put(h, l[i].At, text("other"))
			put(h, l[i].At, l[i].C)
		}
		at := r.near()
		had := h.Get(at)
		put(h, at, r.content())
		if r.Intn(2) == 0 {
			put(h, at, had)
		}
		s, err := packed.Pack(g)
		o, no := packed.Pack(h)
		if err != api.OK || no != api.OK || (s == o) != g.Equal(h) {
			t.Fatalf("P24.5: files %x, %x, errors %d, %d: Equal is %v", s, o, err, no, g.Equal(h))
		}
		if s == o {
			alike++
		}
	}
	if alike < 3000 || alike > 7000 {
		t.Errorf("too few of a kind: %d of 8000 are alike", alike)
	}
}

// Contents that are nearly the same have other files.
func TestOtherFiles(t *testing.T) {
	l := []api.Content{num(0), num(minus), num(1), text(""), text("0"), text("1"), text("TRUE"), truth(true), truth(false), fault(1), fault(2), form("0"), form("1"), form("+1"), form("-1"), form("TRUE"), form(`"1"`), form("#DIV!"), form("A1"), form("$A1"), form("A$1"), form("$A$1"), form("B1"), form("A2"),
		form("SUM(A1)"), form("SUM(A1:A1)"), form("SUM($A1:A1)"), form("SUM(A1:$A1)"), form("SUM(A1,A1)"), form("MAX(A1)"), form("A1+A2"), form("A2+A1"), form("A1-A2"), form("1-(2-3)"), form("(1-2)-3")}
	files := map[string]int{}
	for i, c := range l {
		for _, at := range []string{"A1", "B1", "A2"} {
			s, err := packed.Pack(gridOf(at, c))
			if j, is := files[s]; is || err != api.OK {
				t.Errorf("P24.5: contents %d, %d at %s have one file, error %d", i, j, at, err)
			}
			files[s] = i
		}
	}
}

// A full grid of formulas and values, as many as a file holds.
func TestFullThereAndBack(t *testing.T) {
	r := chance{rand.New(rand.NewSource(3))}
	g := grid.New()
	for i := range api.MaxCells {
		put(g, xy(1+i%256, 1+i/256*256), r.content())
	}
	s, err := packed.Pack(g)
	h, no := packed.Unpack(s)
	if err != api.OK || no != api.OK || toldGrid(h) != toldGrid(g) || h.Len() != api.MaxCells {
		t.Fatalf("P24.5: the full grid is another one: errors %d, %d", err, no)
	}
	if again, err := packed.Pack(h); err != api.OK || again != s || s != modelPack(g) {
		t.Errorf("P24.5: the full grid's file is another one: error %d", err)
	}
}

// Q6: a sheet that went by lines and by bytes is that sheet.
func TestLinesAndBytes(t *testing.T) {
	r := chance{rand.New(rand.NewSource(4))}
	for range 1500 {
		g := r.grid(5)
		s, _ := packed.Pack(g)
		h, _ := packed.Unpack(s)
		told, err := lines.Write(h)
		if err == api.ErrLong {
			continue // a formula's text is longer than its bytes
		}
		back, bad := lines.Read(told)
		if err != api.OK || bad.Code != api.OK {
			t.Fatalf("Q6: errors %d, %d", err, bad.Code)
		}
		if again, err := packed.Pack(back); err != api.OK || again != s {
			t.Fatalf("Q6: the sheet %q is another one behind lines and bytes", short(told))
		}
	}
}

// The file of a grid is that of its cells, each with its bytes, one behind the other.
func TestCellByCell(t *testing.T) {
	r := chance{rand.New(rand.NewSource(5))}
	for range 3000 {
		g := r.grid(6)
		var b strings.Builder
		last := api.Addr{}
		for at, c := range g.All() {
			alone := grid.New()
			put(alone, at, c)
			s, _ := packed.Pack(alone)
			b.WriteString(s[6 : len(s)-4])
			if addr.Order(last, at) >= 0 {
				t.Fatal("the cells are out of order")
			}
			last = at
		}
		if s, err := packed.Pack(g); err != api.OK || s != summed("QDR1"+string([]byte{byte(g.Len()), 0})+b.String()) {
			t.Fatalf("P24.1: Pack of %s: %x, error %d", short(toldGrid(g)), s, err)
		}
	}
}
