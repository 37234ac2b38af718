package live_test

import (
	"fmt"
	"math"
	"slices"
	"testing"

	"quadrille/api"
	"quadrille/live"
)

// P20.3, Q4: little work.

// step is a batch, and what it comes to.
type step struct {
	batch           []any
	worked, changed string
}

func steps(t *testing.T, about string, s *live.Sheet, list ...step) {
	t.Helper()
	for i, x := range list {
		set(t, s, x.batch...)
		at := fmt.Sprintf("P20.3: %s, batch %d: ", about, i)
		sameCells(t, at+"Worked", s.Worked(), cells(x.worked))
		sameCells(t, at+"Changed", s.Changed(), cells(x.changed))
		isWhole(t, about, s)
	}
}

func TestLittleWork(t *testing.T) {
	steps(t, "plain cells", live.New(),
		step{[]any{"B2", 1.0, "A1", "x", "C1", true}, "", "A1 C1 B2"},
		step{[]any{"B2", 1.0, "A1", "x", "C1", true}, "", ""},
		step{[]any{"B2", 2.0, "A1", "x", "C1", nil}, "", "C1 B2"},
		step{[]any{"C1", nil, "D1", nil}, "", ""},
		step{[]any{"A1", "X"}, "", "A1"},
		step{[]any{"A1", 5, "B2", "2"}, "", "A1 B2"},
		step{[]any{"A1", 5}, "", ""},
		step{[]any{"A1", 4}, "", "A1"})
	steps(t, "what comes to the same", live.New(),
		step{[]any{"A1", 2.0, "A2", "=A1*0", "A3", "=A2+1", "A4", "=A3&A1"}, "A2 A3 A4", "A1 A2 A3 A4"},
		// A2 comes to the same, so A3 is left; A4 uses A1 itself.
		step{[]any{"A1", 3.0}, "A2 A4", "A1 A4"},
		step{[]any{"A2", "=0"}, "A2", ""},
		step{[]any{"A2", 0.0}, "", ""},
		step{[]any{"A2", "=A1*0"}, "A2", ""},
		step{[]any{"A2", "=A1"}, "A2 A3 A4", "A2 A3 A4"},
		step{[]any{"A3", "=A2+1"}, "A3", ""},
		step{[]any{"A1", nil}, "A2 A3 A4", "A1 A2 A3 A4"},
		step{[]any{"A1", 0.0}, "A2 A4", "A1 A4"},
		step{[]any{"A1", nil, "A4", nil}, "A2", "A1 A4"},
		step{[]any{"A4", nil}, "", ""})
	steps(t, "an order of its own", live.New(),
		// Cells that stand ahead of what they use.
		step{[]any{"A1", "=B1", "B1", "=C1", "C1", "=A2", "A2", "=A3", "A3", 1.0}, "A1 B1 C1 A2", "A1 B1 C1 A2 A3"},
		step{[]any{"A3", 2.0}, "A1 B1 C1 A2", "A1 B1 C1 A2 A3"},
		step{[]any{"C1", 2.0}, "", ""},
		step{[]any{"A3", 3.0}, "A2", "A2 A3"},
		step{[]any{"C1", "=A2", "A2", "=A3"}, "A1 B1 C1 A2", "A1 B1 C1"},
		step{[]any{"B1", "=MIN(C1,2)", "A3", 9.0}, "A1 B1 C1 A2", "A1 B1 C1 A2 A3"})
	steps(t, "some that hang on it, and don't use what has changed", live.New(),
		step{[]any{"A1", 1.0, "B1", "=A1>0", "C1", "=B1", "D1", "=C1", "E1", "=D1&A2", "A2", "y"}, "B1 C1 D1 E1", "A1 B1 C1 D1 E1 A2"},
		step{[]any{"A1", 2.0}, "B1", "A1"},
		step{[]any{"A1", 3.0, "A2", "z"}, "B1 E1", "A1 E1 A2"},
		step{[]any{"A1", -3.0, "A2", "z"}, "B1 C1 D1 E1", "A1 B1 C1 D1 E1"},
		step{[]any{"A1", 3.0, "B1", false}, "", "A1"})
}

// TestKinds: both noughts, NaNs of several kinds, faults, each behind each.
func TestKinds(t *testing.T) {
	kinds := []any{nil, 0.0, minus, 1.0, 5e-324, inf, -inf, "", "0", "a", "A", true, false, 1, 2, 3, 4, 5}
	for _, x := range nans() {
		kinds = append(kinds, x)
	}
	isNaN := func(x any) bool {
		f, is := x.(float64)
		return is && math.IsNaN(f)
	}
	for i, x := range kinds {
		for j, y := range kinds {
			s := sheetOf(t, "A1", x, "B1", "=A1", "B2", "=COUNTA(A1:A9)")
			set(t, s, "A1", y)
			want := step{nil, "B1 B2", "A1 B1"}
			if (x == nil) != (y == nil) {
				want.changed += " B2"
			}
			switch {
			case x == nil && j == 1 || i == 1 && y == nil: // B1 shows 0, be A1 blank or +0
				want.changed = "A1 B2"
			case i == j || isNaN(x) && isNaN(y):
				want = step{}
			}
			did(t, s, want.worked, want.changed)
			if isNaN(y) {
				shows(t, s, "A1", math.Float64frombits(theNaN))
				shows(t, s, "B1", math.Float64frombits(theNaN))
			} else {
				shows(t, s, "A1", y)
			}
			isWhole(t, fmt.Sprintf("%v, then %v", x, y), s)
		}
	}
}

// TestFormulasOfKinds: a formula's value changes just as a plain one's does.
func TestFormulasOfKinds(t *testing.T) {
	s := live.New()
	steps(t, "formulas", s,
		step{[]any{"A1", "=-B1", "A2", "=A1", "B1", 0.0}, "A1 A2", "A1 B1 A2"},
		step{[]any{"A1", "=B1"}, "A1 A2", "A1 A2"}, // -0, then +0
		step{[]any{"A1", "=B1*1"}, "A1", ""},
		step{[]any{"B1", minus}, "A1 A2", "A1 B1 A2"},
		step{[]any{"B1", minus, "C1", 1.0}, "", "C1"},
		step{[]any{"A1", "=B1/B1"}, "A1 A2", "A1 A2"}, // #DIV!
		step{[]any{"A1", "=1/0"}, "A1", ""},
		step{[]any{"A1", "=SQRT(-1)"}, "A1 A2", "A1 A2"}, // #NUM!
		step{[]any{"A1", 2}, "", ""},
		step{[]any{"B1", inf, "A1", "=B1-B1"}, "A1 A2", "A1 B1 A2"}, // NaN
		step{[]any{"B1", -inf}, "A1", "B1"},
		step{[]any{"A1", math.NaN()}, "", ""},
		step{[]any{"A1", `="NaN"`}, "A1 A2", "A1 A2"},
		step{[]any{"A1", "NaN"}, "", ""})
}

// TestAreas: cells of areas are put where nothing was, and made empty.
func TestAreas(t *testing.T) {
	steps(t, "areas", sheetOf(t, "A1", "=SUM(B1:D9)", "A2", "=COUNTA(B2:B3)", "A3", "=A1+A2", "A4", "=MAX(E1:IV4096)"),
		step{[]any{"B4", 1.0}, "A1 A3", "A1 A3 B4"},
		step{[]any{"D9", 0.0}, "A1", "D9"},
		step{[]any{"B2", 7.0}, "A1 A2 A3", "A1 A2 B2 A3"},
		step{[]any{"B2", 6.0, "B5", 1.0}, "A1 A2", "B2 B5"},
		step{[]any{"B10", 5.0, "A5", 1.0}, "", "A5 B10"},
		step{[]any{"B2", nil, "B3", "=6"}, "A1 A2 B3", "B2 B3"},
		step{[]any{"B3", nil, "B4", nil, "B5", nil, "D9", nil}, "A1 A2 A3", "A1 A2 A3 B3 B4 B5 D9"},
		step{[]any{"IV4096", 9.0}, "A4", "A4 IV4096"},
		step{[]any{"E1", 9.0}, "A4", "E1"},
		step{[]any{"IV1", "x", "E4096", nil}, "A4", "IV1"},
		step{[]any{"D1", "=A4", "A1", "=COUNT(D1:D1)"}, "A1 D1 A3", "A1 D1 A3"})
	// New formulas within an area that others use, in one batch.
	steps(t, "formulas in areas", live.New(),
		step{[]any{"A1", "=SUM(A2:C9)", "B5", "=SUM(C6:C9)", "C7", "=D1+1", "D1", 1.0, "A2", "=B5*2"}, "A1 A2 B5 C7", "A1 D1 A2 B5 C7"},
		step{[]any{"C8", "=C7", "D1", nil}, "A1 B5 C7 C8", "D1 C7 C8"}, // the sums stay
		step{[]any{"C9", "=0*C8"}, "A1 B5 C9", "C9"})
}

// chainCells are as many cells as may be, each of which uses the one ahead in chain.
func chainCells() []api.Addr {
	var l []api.Addr
	for i := range api.MaxCells {
		l = append(l, place(i))
	}
	return l
}

// chain is a sheet of as many cells as may be, each one more than the one ahead, the first one 1.
func chain(t testing.TB) *live.Sheet {
	t.Helper()
	return full(t, api.MaxCells, func(i int) any {
		if i == 0 {
			return 1.0
		}
		return "=" + name(place(i-1)) + "+1"
	})
}

func TestLongChain(t *testing.T) {
	s := chain(t)
	all := chainCells()
	if v := s.Value(all[api.MaxCells-1]); v.X != api.MaxCells {
		t.Errorf("P20.2: the last one shows %v", v)
	}
	isWhole(t, "a chain", s)
	set(t, s, all[0], 5.0)
	sameCells(t, "P20.3: Worked of a chain", s.Worked(), all[1:])
	sameCells(t, "P20.3: Changed of a chain", s.Changed(), all)
	isWhole(t, "a chain from 5 on", s)
	set(t, s, all[2000], 2005.0)
	did(t, s, "", "")
	set(t, s, all[0], 6.0)
	sameCells(t, "P20.3: Worked of a chain that was cut", s.Worked(), all[1:2000])
	sameCells(t, "P20.3: Changed of a chain that was cut", s.Changed(), all[:2000])
	set(t, s, all[3000], "="+name(all[2999])+"*0", all[0], 7.0, all[1000], "=7", all[2500], "=8")
	sameCells(t, "P20.3: Worked of a chain in pieces", s.Worked(), slices.Concat(all[1:2000], all[2500:]))
	sameCells(t, "P20.3: Changed of a chain in pieces", s.Changed(), slices.Concat(all[:2000], all[2500:]))
	isWhole(t, "a chain in pieces", s)
}

// TestBackwards: a chain whose cells stand ahead of what they use.
func TestBackwards(t *testing.T) {
	all := chainCells()
	s := full(t, api.MaxCells, func(i int) any {
		if i == api.MaxCells-1 {
			return 1.0
		}
		return "=" + name(place(i+1)) + "+1"
	})
	shows(t, s, "A1", float64(api.MaxCells))
	set(t, s, all[api.MaxCells-1], 2.0)
	sameCells(t, "P20.3: Worked of a chain backwards", s.Worked(), all[:api.MaxCells-1])
	sameCells(t, "P20.3: Changed of a chain backwards", s.Changed(), all)
	isWhole(t, "a chain backwards", s)
}

// TestLadder: each rung uses both of the one ahead; each formula is worked out once, however many ways lead to it.
func TestLadder(t *testing.T) {
	s := live.New()
	var list []any
	want := cells("A1")
	for row := 2; row <= 100; row++ {
		ahead := fmt.Sprintf("=MAX(A%d:B%d)+1", row-1, row-1)
		list = append(list, xy(1, row), ahead, xy(2, row), ahead)
		want = append(want, xy(1, row), xy(2, row))
	}
	set(t, s, list...)
	set(t, s, "A1", 5.0)
	shows(t, s, "B100", 104.0)
	sameCells(t, "P20.3: Worked of a ladder", s.Worked(), want[1:])
	sameCells(t, "P20.3: Changed of a ladder", s.Changed(), want)
	// The other side of the first rung counts for nothing, as it is less.
	set(t, s, "B1", 4.0)
	did(t, s, "A2 B2", "B1")
	isWhole(t, "a ladder", s)
}

// TestManyUsers: many formulas use one cell, and one area.
func TestManyUsers(t *testing.T) {
	all := chainCells()
	s := full(t, api.MaxCells, func(i int) any {
		switch {
		case i == 0:
			return 1.0
		case i < 300:
			return "=SUM(A1:A1)*0"
		case i%2 == 0:
			return "=A1+1"
		}
		return "=7"
	})
	set(t, s, "A1", 2.0)
	var worked []api.Addr
	changed := all[:1]
	for i, at := range all[1:] {
		if i+1 < 300 || i%2 == 1 {
			worked = append(worked, at)
		}
		if i+1 >= 300 && i%2 == 1 {
			changed = append(changed[:len(changed):len(changed)], at)
		}
	}
	sameCells(t, "P20.3: Worked of many users", s.Worked(), worked)
	sameCells(t, "P20.3: Changed of many users", s.Changed(), changed)
	sameCells(t, "P20.2: Users of many", s.Users(cell("A1")), worked)
	isWhole(t, "many users", s)
}

// TestLongSums: each cell sums all ahead of it.
func TestLongSums(t *testing.T) {
	var list []any
	for row := 2; row <= 300; row++ {
		list = append(list, xy(1, row), fmt.Sprintf("=SUM(A1:A%d)", row-1))
	}
	s := sheetOf(t, list...)
	set(t, s, "A1", 1.0)
	if len(s.Worked()) != 299 || len(s.Changed()) != 300 {
		t.Errorf("P20.3: %d worked, %d changed", len(s.Worked()), len(s.Changed()))
	}
	shows(t, s, "A300", math.Ldexp(1, 298))
	isWhole(t, "sums", s)
	// Put anew, a batch at a time, from the last ones on.
	for k := len(list) - 512; k > -512; k -= 512 {
		set(t, s, list[max(k, 0):k+512]...)
		isWhole(t, "sums", s)
		if len(s.Changed()) > 0 {
			t.Errorf("P20.5: what is there, put again, changes %s", names(s.Changed()))
		}
	}
}
