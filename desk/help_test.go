package desk_test

import (
	"encoding/hex"
	"fmt"
	"strings"
	"testing"

	"quadrille/addr"
	"quadrille/api"
	"quadrille/desk"
	"quadrille/grid"
	"quadrille/lines"
	"quadrille/packed"
)

// emptyFile is the file of a grid without contents.
const emptyFile = "514452310000f6ccce9f"

// A command is told by its name, and by a line of it that a filled desk does, gathering or not as it has to be.
type command struct {
	name, line string
	words      int  // how many it takes, itself left out
	rest       bool // whether a REST stands behind them
	asks       bool // whether it is a question
	gathering  bool // whether it may be done while the desk gathers
}

func commands() []command {
	return []command{
		{"put", "put A1 1", 1, true, false, true},
		{"empty", "empty A1", 1, false, false, true},
		{"begin", "begin", 0, false, false, false},
		{"end", "end", 0, false, false, true},
		{"drop", "drop", 0, false, false, true},
		{"undo", "undo", 0, false, false, false},
		{"redo", "redo", 0, false, false, false},
		{"backs", "backs", 0, false, true, true},
		{"get", "get A1", 1, false, true, true},
		{"show", "show A1 f2", 2, false, true, true},
		{"typed", "typed A1", 1, false, true, true},
		{"users", "users A1", 1, false, true, true},
		{"count", "count", 0, false, true, true},
		{"bounds", "bounds", 0, false, true, true},
		{"rows", "rows 1 1", 2, false, false, false},
		{"cols", "cols 1 1", 2, false, false, false},
		{"copy", "copy A1:B1 D1", 2, false, false, false},
		{"fill", "fill A1 D1:D2", 2, false, false, false},
		{"move", "move A1:B1 D1", 2, false, false, false},
		{"clear", "clear A1:B1", 1, false, false, false},
		{"row", "row A1 1,2", 1, true, false, false},
		{"table", "table A1:B2 g0", 2, false, true, true},
		{"write", "write", 0, false, true, true},
		{"pack", "pack", 0, false, true, true},
		{"unpack", "unpack " + emptyFile, 1, false, false, false},
	}
}

// says holds what a desk answers to a line against a text.
func says(t testing.TB, d *desk.Desk, line, want string) {
	t.Helper()
	if got, bad := d.Do(line); bad != (api.Mishap{}) || got != want {
		t.Errorf("P25.1: %s: %q, error %d at %d, not %q", short(line), short(got), bad.Code, bad.At, short(want))
	}
}

// does has lines done that answer nothing.
func does(t testing.TB, d *desk.Desk, lines ...string) {
	t.Helper()
	for _, line := range lines {
		says(t, d, line, "")
	}
}

// deskOf is a desk on which lines were done that answer nothing.
func deskOf(t testing.TB, lines ...string) *desk.Desk {
	t.Helper()
	d := desk.New()
	does(t, d, lines...)
	return d
}

// filled is a desk with A1 1, B1 a text, A2 a formula, of which one step can be taken back, and one done again.
func filled(t testing.TB) *desk.Desk {
	t.Helper()
	return deskOf(t, "row A1 1,x", "put A2 =A1*2", "put C3 7", "undo")
}

// refuses holds what a desk answers to a line against a mishap, beside which there is nothing, and behind which nothing has changed.
func refuses(t testing.TB, d *desk.Desk, line string, code api.Errno, at int) {
	t.Helper()
	was := state(t, d)
	if got, bad := d.Do(line); got != "" || bad != (api.Mishap{Code: code, At: at}) {
		t.Errorf("P25.1: %s: %q, error %d at %d, not %d at %d", short(line), short(got), bad.Code, bad.At, code, at)
	}
	if now := state(t, d); now != was {
		t.Errorf("P25.1: behind the refused line %s: %s, not %s", short(line), short(now), short(was))
	}
}

// state is what can be asked of a desk without a change: the sheet, what is behind and ahead, whether it gathers.
func state(t testing.TB, d *desk.Desk) string {
	t.Helper()
	packed, bad := d.Do("pack")
	if bad.Code != api.OK {
		packed = fmt.Sprint(bad)
	}
	backs, bad := d.Do("backs")
	if bad.Code != api.OK {
		t.Errorf("backs: error %d", bad.Code)
	}
	// To the same contents there is no step: the line does nothing, but while the desk gathers it is refused.
	_, bad = d.Do("rows 1 0")
	if bad != (api.Mishap{}) && bad != (api.Mishap{Code: api.ErrBack}) {
		t.Errorf("rows 1 0: error %d at %d", bad.Code, bad.At)
	}
	return fmt.Sprintf("%s, %s, gathers %v", packed, backs, bad.Code == api.ErrBack)
}

// bothWays holds that something is refused, or does nothing, while a desk doesn't gather, and while it does; behind it nothing was gathered.
func bothWays(t testing.TB, d *desk.Desk, check func()) {
	t.Helper()
	was := state(t, d)
	check()
	does(t, d, "begin")
	check()
	does(t, d, "end")
	if now := state(t, d); now != was {
		t.Errorf("P25.1: something was gathered: %s, not %s", short(now), short(was))
	}
}

// fileOf is the file, in digits, of cells' texts and what is typed into them.
func fileOf(t testing.TB, list ...string) string {
	t.Helper()
	g := grid.New()
	for i := 0; i < len(list); i += 2 {
		r, no := addr.Parse(list[i])
		c, bad := lines.Entry(list[i+1])
		if err := g.Put(r.Addr, c); no != api.OK || bad.Code != api.OK || err != api.OK {
			t.Fatalf("%s %s: errors %d, %d, %d", list[i], list[i+1], no, bad.Code, err)
		}
	}
	b, err := packed.Pack(g)
	if err != api.OK {
		t.Fatalf("Pack: error %d", err)
	}
	return hex.EncodeToString([]byte(b))
}

func short(s string) string {
	if len(s) > 300 {
		s = fmt.Sprintf("%s..%s (%d bytes)", s[:150], s[len(s)-100:], len(s))
	}
	return s
}

// blanks are so many.
func blanks(n int) string { return strings.Repeat(" ", n) }

// padded is a line with blanks behind it up to so many bytes.
func padded(line string, size int) string { return line + blanks(size-len(line)) }
