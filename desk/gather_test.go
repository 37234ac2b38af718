package desk_test

import (
	"fmt"
	"testing"

	"quadrille/api"
	"quadrille/desk"
)

// P25.1: puts that are gathered, and what is done with them.

// ends has a gathering desk end, which is refused: it gathers no more, and nothing else has changed.
func ends(t testing.TB, d *desk.Desk, code api.Errno, at int) {
	t.Helper()
	packed, _ := d.Do("pack")
	backs, _ := d.Do("backs")
	if got, bad := d.Do("end"); got != "" || bad != (api.Mishap{Code: code, At: at}) {
		t.Errorf("P25.1: end: %q, error %d at %d, not %d at %d", got, bad.Code, bad.At, code, at)
	}
	says(t, d, "pack", packed)
	says(t, d, "backs", backs)
	refuses(t, d, "end", api.ErrBack, 0)
}

func TestGathered(t *testing.T) {
	d := deskOf(t, "put A1 1", "begin", "put A1 =B1*2", "put B1 3", "empty C1", "put D1 x")
	says(t, d, "get A1", "1")
	says(t, d, "count", "1")
	says(t, d, "backs", "1 0")
	does(t, d, "end")
	says(t, d, "get A1", "6")
	says(t, d, "count", "3")
	says(t, d, "backs", "2 0")
	does(t, d, "undo")
	says(t, d, "write", "quadrille 1\nA1 1\nend 1\n")
	refuses(t, d, "end", api.ErrBack, 0)
	refuses(t, d, "drop", api.ErrBack, 0)
}

// From no puts on: what was gathered before, and ended, dropped or refused, is forgotten.
func TestFromNoPutsOn(t *testing.T) {
	d := deskOf(t, "begin", "put A1 1", "end", "begin", "put A2 2", "drop", "begin", "end")
	says(t, d, "write", "quadrille 1\nA1 1\nend 1\n")
	says(t, d, "backs", "1 0")
	does(t, d, "begin", "put A3 =A3")
	ends(t, d, api.ErrCycle, 0)
	does(t, d, "begin", "put A4 4", "end")
	says(t, d, "write", "quadrille 1\nA1 1\nA4 4\nend 2\n")
	does(t, d, "begin", "drop", "put A5 5")
	says(t, d, "backs", "3 0")
	does(t, d, "begin", "put A5 5", "end") // no step
	says(t, d, "backs", "3 0")
}

// An empty put into a cell that has something is gathered like any other.
func TestEmptyGathered(t *testing.T) {
	d := deskOf(t, "row A1 1,2,3", "begin", "empty B1", "put C1", "put A1 =B1")
	says(t, d, "count", "3")
	does(t, d, "end")
	says(t, d, "write", "quadrille 1\nA1 =B1\nend 1\n")
}

// While it gathers, what would step aside is refused, and what asks is answered of the sheet as it was.
func TestWhileGathering(t *testing.T) {
	for _, c := range commands() {
		d := filled(t)
		want, due := d.Do(c.line)
		if due.Code == api.OK != (c.name != "end" && c.name != "drop") {
			t.Errorf("P25.1: %s while it doesn't gather: error %d", c.line, due.Code)
		}
		d = filled(t)
		does(t, d, "begin", "put A1 9", "put A9 9")
		switch {
		case !c.gathering:
			refuses(t, d, c.line, api.ErrBack, 0)
		case c.asks:
			was := state(t, d)
			says(t, d, c.line, want)
			if state(t, d) != was {
				t.Errorf("P25.4: %s while it gathers has changed something", c.line)
			}
		default:
			does(t, d, c.line)
		}
		switch c.name {
		case "end":
			says(t, d, "get A9", "9")
			says(t, d, "backs", "3 0")
		case "drop":
			says(t, d, "get A9", "")
			says(t, d, "backs", "2 1")
		case "put", "empty":
			ends(t, d, api.ErrTwice, 2)
		default:
			does(t, d, "end")
			says(t, d, "get A1", "9")
			says(t, d, "get A9", "9")
			says(t, d, "backs", "3 0")
		}
	}
}

// A line that is refused leaves what was gathered as it was.
func TestGatheredStays(t *testing.T) {
	d := deskOf(t, "begin", "put A1 1")
	for _, line := range []string{"put A2 =", "put A0 1", "put", "empty", "empty A1 x", "begin", "undo", "rows 1 1", "nothing", "end x", "drop x", "end\n", "put A2 \xff"} {
		if _, bad := d.Do(line); bad.Code == api.OK {
			t.Errorf("P25.1: %q is done", line)
		}
	}
	does(t, d, "put B1 2", "end")
	says(t, d, "write", "quadrille 1\nA1 1\nB1 2\nend 2\n")
	says(t, d, "backs", "1 0")
}

// What Do refuses of the puts that were gathered stands at the number of its put.
func TestEndRefused(t *testing.T) {
	for _, c := range []struct {
		puts []string
		code api.Errno
		at   int
	}{
		{[]string{"put A1 1", "put A1 2"}, api.ErrTwice, 1},
		{[]string{"put A1 1", "put B1 2", "empty $a$1"}, api.ErrTwice, 2},
		{[]string{"empty C9", "empty C9"}, api.ErrTwice, 1},
		{[]string{"put A1 =A1"}, api.ErrCycle, 0},
		{[]string{"put A1 1", "put B1 2", "put C1 =D1", "put D1 =C1"}, api.ErrCycle, 2},
		{[]string{"put A1 1", "put X1 =Z1"}, api.ErrCycle, 1},
		{[]string{"put A1 =A1", "put B1 1", "put B1 2"}, api.ErrTwice, 2},
	} {
		d := deskOf(t, "put Z1 =Y1", "put Y1 =X1", "put Z2 1", "undo", "begin")
		does(t, d, c.puts...)
		ends(t, d, c.code, c.at)
		says(t, d, "backs", "2 1")
	}
}

// gathered is a desk that has gathered so many puts, row by row.
func gathered(t testing.TB, count int) *desk.Desk {
	t.Helper()
	d := deskOf(t, "begin")
	for i := range count {
		does(t, d, fmt.Sprintf("put %c%d %d", 'A'+i%16, 1+i/16, i))
	}
	return d
}

func TestAsManyAsMayBe(t *testing.T) {
	d := gathered(t, api.MaxBatch)
	does(t, d, "end")
	says(t, d, "count", "256")
	says(t, d, "get P16", "255")
	says(t, d, "backs", "1 0")
	for _, count := range []int{api.MaxBatch + 1, api.MaxBatch + 2, 2 * api.MaxBatch, 4000} {
		d := gathered(t, count)
		ends(t, d, api.ErrMany, api.MaxBatch)
		says(t, d, "count", "0")
		does(t, d, "begin", "put A1 1", "end")
		says(t, d, "count", "1")
	}
	// Ahead of what is wrong with the puts themselves.
	d = gathered(t, api.MaxBatch)
	does(t, d, "put A1 =A1")
	ends(t, d, api.ErrMany, api.MaxBatch)
	d = gathered(t, api.MaxBatch-1)
	does(t, d, "put A1 =A1")
	ends(t, d, api.ErrTwice, api.MaxBatch-1)
}

func TestFull(t *testing.T) {
	d := deskOf(t, "put A1 7", "fill A1 A1:P256")
	says(t, d, "count", "4096")
	refuses(t, d, "put Q1 1", api.ErrFull, 0)
	refuses(t, d, "row P1 1,2", api.ErrFull, 0)
	refuses(t, d, "row Q1 1", api.ErrFull, 0)
	does(t, d, "begin", "put A1 1", "put Q1 1")
	ends(t, d, api.ErrFull, 0)
	does(t, d, "begin", "put Q1 1", "empty A1", "end", "put A2 =1", "row A2 1,2", "empty Q1", "put A1 1")
	says(t, d, "count", "4096")
	says(t, d, "bounds", "A1:P256")
}
