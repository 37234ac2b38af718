package packed_test

import (
	"math"
	"strings"
	"sync"
	"testing"

	"quadrille/api"
	"quadrille/packed"
)

// R3: what is handed in is neither changed nor kept, and what is answered is new memory. R4: the same is answered each time.

func TestArgumentsStay(t *testing.T) {
	l := make([]float64, 0, 6)
	l = append(l, .1, math.Float64frombits(0xFFF8000000000001), minus, 1)
	_ = append(l, 7, 8)
	was := toldNumbers(l[:6])
	packed.Singles(l, api.Up)
	packed.Singles(l, 0)
	packed.Doubles(l)
	if toldNumbers(l[:6]) != was {
		t.Errorf("R3: a list that was handed in has changed: %s", toldNumbers(l[:6]))
	}
	g := gridOf("A1", form("SUM(A2:B3,-C4)"), "B1", text("x"))
	s, _ := packed.Pack(g)
	again, _ := packed.Pack(g)
	put(g, cell("A1"), num(7))
	if s != again || s == modelPack(g) {
		t.Error("R4: the same grid has two files")
	}
	packs(t, g, modelPack(g))
}

func TestAnswersAreNew(t *testing.T) {
	s, _ := packed.Pack(gridOf("A1", form("SUM(A2:B3,-C4)"), "B1", text("x")))
	g, _ := packed.Unpack(s)
	h, _ := packed.Unpack(s)
	put(g, cell("B1"), text("other"))
	put(g, cell("A1"), api.Content{})
	c := h.Get(cell("A1"))
	for i := range c.F.Args[:cap(c.F.Args)] {
		c.F.Args[:cap(c.F.Args)][i] = api.Node{Kind: 77}
	}
	packs(t, h, s)
	for _, read := range []func(string) ([]float64, api.Errno){packed.FromSingles, packed.FromDoubles} {
		b := strings.Repeat("\x01", 64)
		first, _ := read(b)
		second, _ := read(b)
		was := toldNumbers(second)
		for i := range first[:cap(first)] {
			first[:cap(first)][i] = 77
		}
		if third, _ := read(b); toldNumbers(second) != was || toldNumbers(third) != was {
			t.Error("R3: two lists that were read share memory")
		}
	}
}

// The grid that Unpack answers is one like any other.
func TestUnpackIsAGrid(t *testing.T) {
	g, err := packed.Unpack(sealed("0000"))
	if err != api.OK || g == nil || g.Len() != 0 {
		t.Fatalf("P24.2: the file of a new grid: error %d", err)
	}
	put(g, cell("B2"), form("A1"))
	packs(t, g, sealed("0100 02000200 02 05 01000100 00"))
	if !g.Equal(gridOf("B2", form("A1"))) {
		t.Error("P24.2: the grid that was read is no grid like others")
	}
}

// Calls side by side have nothing to do with each other.
func TestSideBySide(t *testing.T) {
	s := small()
	g, err := packed.Unpack(s)
	if err != api.OK {
		t.Fatal(err)
	}
	var all sync.WaitGroup
	bad := make([]bool, 8)
	for i := range bad {
		all.Go(func() {
			for range 100 {
				b, _ := packed.Pack(g)
				h, _ := packed.Unpack(s)
				_, no := packed.Unpack(summed(s[:len(s)-5]))
				l, n, _ := packed.Singles([]float64{1, .1}, api.Even)
				x, _ := packed.FromDoubles(strings.Repeat("\xff", 8))
				bad[i] = bad[i] || b != s || !g.Equal(h) || no != api.ErrForm || len(l) != 8 || n != 1 || toldNumbers(x) != "7ff8000000000000 "
			}
		})
	}
	all.Wait()
	for i, is := range bad {
		if is {
			t.Errorf("R4: goroutine %d got another answer", i)
		}
	}
}
