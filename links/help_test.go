package links_test

import (
	"fmt"
	"math"
	"slices"
	"strings"
	"testing"

	"quadrille/addr"
	"quadrille/api"
	"quadrille/links"
)

const (
	least    = math.MinInt
	greatest = math.MaxInt
)

func xy(col, row int) api.Addr { return api.Addr{Col: col, Row: row} }

// cells are the cells of texts with blanks between.
func cells(texts string) []api.Addr {
	var l []api.Addr
	for _, text := range strings.Fields(texts) {
		r, err := addr.Parse(text)
		if err != api.OK {
			panic("no cell: " + text)
		}
		l = append(l, r.Addr)
	}
	return l
}

func cell(text string) api.Addr { return cells(text)[0] }

// areas are the areas of texts with blanks between.
func areas(texts string) []api.Area {
	var l []api.Area
	for _, text := range strings.Fields(texts) {
		a, err := addr.ParseArea(text)
		if err != api.OK {
			panic("no area: " + text)
		}
		l = append(l, a)
	}
	return l
}

// far are numbers that are no column's and no row's, each way.
func far() []int {
	return []int{least, least + 1, -4096, -256, -1, 0, 4097, 1 << 16, 1<<32 + 1, 1 << 40, greatest - 1, greatest}
}

// noCells are addresses of no cell.
func noCells() []api.Addr {
	l := []api.Addr{{}, xy(257, 1), xy(257, 4096), xy(1, 4097), xy(256, 4097), xy(257, 4097), xy(4096, 256), xy(0, 1), xy(1, 0)}
	for _, n := range far() {
		l = append(l, xy(n, 1), xy(1, n), xy(n, n), xy(256, n), xy(n, 4096))
	}
	return l
}

// noAreas are areas that may not be, each in each way.
func noAreas() []api.Area {
	a, b := cell("A1"), cell("IV4096")
	l := []api.Area{{}, {From: cell("B1"), To: a}, {From: cell("A2"), To: a}, {From: cell("B2"), To: a}, {From: cell("B1"), To: cell("A9")}, {From: cell("A9"), To: cell("B1")}, {From: b, To: a}}
	for _, at := range noCells() {
		l = append(l, api.Area{From: a, To: at}, api.Area{From: at, To: b}, api.Area{From: at, To: at})
	}
	return l
}

// mustSet lays down areas that are taken.
func mustSet(t *testing.T, l *links.Links, at api.Addr, uses []api.Area) {
	t.Helper()
	if err := l.Set(at, uses); err != api.OK {
		t.Fatalf("P18.1: Set(%v, %d areas): %d", at, len(uses), err)
	}
}

// linksOf has cells that are set by lines: a cell, a colon, its areas.
func linksOf(t *testing.T, lines ...string) *links.Links {
	t.Helper()
	l := links.New()
	for _, line := range lines {
		at, uses, _ := strings.Cut(line, ": ")
		mustSet(t, l, cell(strings.TrimSuffix(at, ":")), areas(uses))
	}
	return l
}

func names(l []api.Addr) string {
	var b strings.Builder
	for i, at := range l {
		text, err := addr.Text(api.Ref{Addr: at})
		if err != api.OK {
			text = fmt.Sprint(at)
		}
		if i > 0 {
			b.WriteByte(' ')
		}
		if i == 40 {
			fmt.Fprintf(&b, ".. (%d)", len(l))
			break
		}
		b.WriteString(text)
	}
	return b.String()
}

func same(t *testing.T, about string, got []api.Addr, want string) {
	t.Helper()
	sameCells(t, about, got, cells(want))
}

func sameCells(t *testing.T, about string, got, want []api.Addr) {
	t.Helper()
	if !slices.Equal(got, want) {
		t.Errorf("%s: %s, not %s", about, names(got), names(want))
	}
}

func sameAreas(t *testing.T, about string, got, want []api.Area) {
	t.Helper()
	if !slices.Equal(got, want) {
		t.Errorf("%s: %v, not %v", about, got, want)
	}
}

// order holds what Order tells against cells, or an error.
func order(t *testing.T, l *links.Links, at, want string) {
	t.Helper()
	got, err := l.Order(cells(at))
	checkTold(t, fmt.Sprintf("P18.4: Order(%s)", at), got, err, want)
}

// ready holds what Ready tells against cells, or an error.
func ready(t *testing.T, l *links.Links, at string, picks []int, want string) {
	t.Helper()
	got, err := l.Ready(cells(at), picks)
	checkTold(t, fmt.Sprintf("P18.4: Ready(%s; %v)", at, picks), got, err, want)
}

func checkTold(t *testing.T, about string, got []api.Addr, err api.Errno, want string) {
	t.Helper()
	if want == "ErrCycle" {
		if err != api.ErrCycle || len(got) > 0 {
			t.Errorf("%s: %s, %d, not ErrCycle alone", about, names(got), err)
		}
		return
	}
	if err != api.OK {
		t.Errorf("%s: error %d", about, err)
	}
	same(t, about, got, want)
}

// circle holds what Circle tells against cells; none is said by nothing.
func circle(t *testing.T, l *links.Links, want string) {
	t.Helper()
	got, is := l.Circle()
	same(t, "P18.3: Circle()", got, want)
	if is != (want != "") {
		t.Errorf("P18.3: Circle() of %q: %v", want, is)
	}
}

// told is all that links tell of some cells, and of all that are set.
func told(l *links.Links, at ...api.Addr) string {
	var b strings.Builder
	fmt.Fprintf(&b, "%d ", l.Len())
	for _, one := range at {
		fmt.Fprintf(&b, "%v: %v %v %v; ", one, l.Uses(one), l.Users(one), l.Above(one))
	}
	c, is := l.Circle()
	o, err := l.Order(at)
	r, err2 := l.Ready(at, []int{-1, 5, -3, 2})
	fmt.Fprint(&b, c, is, o, err, r, err2, l.Above(at...))
	return b.String()
}

// within are the cells from A1 up to a column and a row, and the corners of all.
func within(cols, rows int) []api.Addr {
	var l []api.Addr
	for row := 1; row <= rows; row++ {
		for col := 1; col <= cols; col++ {
			l = append(l, xy(col, row))
		}
	}
	return append(l, cells("IV1 A4096 IV4096")...)
}

// roomy is a list with room behind it that holds something.
func roomy[T any](list []T, spare T) []T {
	full := make([]T, 0, len(list)+3)
	return append(append(full, list...), spare, spare, spare)[:len(list)]
}

// writeOver writes over a list, its room too.
func writeOver[T any](list []T, what T) {
	list = list[:cap(list)]
	for i := range list {
		list[i] = what
	}
}
