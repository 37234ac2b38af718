package addr_test

import (
	"iter"
	"math"
	"math/big"
	"math/rand"
	"regexp"
	"slices"
	"strconv"
	"strings"
	"testing"

	"quadrille/addr"
	"quadrille/api"
)

const (
	far = math.MaxInt
	low = math.MinInt
)

func at(col, row int) api.Addr { return api.Addr{Col: col, Row: row} }

func area(a, b, c, d int) api.Area { return api.Area{From: at(a, b), To: at(c, d)} }

func ref(col, row int, c, r bool) api.Ref {
	return api.Ref{Addr: at(col, row), ColFixed: c, RowFixed: r}
}

// names are the columns' letters, the one of column n at place n - 1.
func names() []string {
	const abc = "ABCDEFGHIJKLMNOPQRSTUVWXYZ"
	l := strings.Split(abc, "")
	for _, a := range abc {
		for _, b := range abc {
			l = append(l, string(a)+string(b))
		}
	}
	return l[:256]
}

var (
	goodCols = []int{1, 2, 25, 26, 27, 28, 51, 52, 53, 78, 79, 255, 256}
	goodRows = []int{1, 2, 9, 10, 11, 99, 100, 999, 1000, 4095, 4096}
	badCols  = []int{0, -1, -26, 257, 258, 512, 4096, low, low + 1, far - 1, far, 1<<32 + 1, -1<<32 + 1}
	badRows  = []int{0, -1, -9, 4097, 4098, 8192, low, low + 1, far - 1, far, 1<<32 + 1, -1<<32 + 1}
)

// goodCells are cells at each limit and between.
func goodCells() []api.Addr {
	var l []api.Addr
	for _, c := range goodCols {
		for _, r := range goodRows {
			l = append(l, at(c, r))
		}
	}
	return l
}

// badCells are no cells, by their column, their row, or both.
func badCells() []api.Addr {
	var l []api.Addr
	for _, c := range badCols {
		for _, r := range goodRows {
			l = append(l, at(c, r))
		}
		for _, r := range badRows {
			l = append(l, at(c, r))
		}
	}
	for _, c := range goodCols {
		for _, r := range badRows {
			l = append(l, at(c, r))
		}
	}
	return l
}

// fixes are a cell's four refs.
func fixes(a api.Addr) []api.Ref {
	return []api.Ref{{Addr: a}, {Addr: a, ColFixed: true}, {Addr: a, RowFixed: true}, {Addr: a, ColFixed: true, RowFixed: true}}
}

// textOf is a cell's text, written down from the document.
func textOf(r api.Ref) string {
	s := names()[r.Addr.Col-1]
	if r.ColFixed {
		s = "$" + s
	}
	if r.RowFixed {
		s += "$"
	}
	return s + strconv.Itoa(r.Addr.Row)
}

var form = regexp.MustCompile(`\A(\$?)([A-Za-z]+)(\$?)([1-9][0-9]*)\z`)

// read is what Parse must answer, by another way.
func read(text string) (api.Ref, api.Errno) {
	m := form.FindStringSubmatch(text)
	if m == nil {
		return api.Ref{}, api.ErrForm
	}
	row, _ := new(big.Int).SetString(m[4], 10)
	col := slices.Index(names(), strings.ToUpper(m[2])) + 1
	if col == 0 || row.Cmp(big.NewInt(4096)) > 0 {
		return api.Ref{}, api.ErrAddr
	}
	return ref(col, int(row.Int64()), m[1] != "", m[3] != ""), api.OK
}

// begins is what Prefix must answer: each beginning is tried.
func begins(text string) int {
	for n := len(text); n > 0; n-- {
		if _, err := read(text[:n]); err == api.OK {
			return n
		}
	}
	return 0
}

// readArea is what ParseArea must answer.
func readArea(text string) (api.Area, api.Errno) {
	l := strings.SplitN(text, ":", 2)
	a, errA := read(l[0])
	b, errB := read(l[len(l)-1])
	for _, err := range []api.Errno{api.ErrForm, api.ErrAddr} {
		if errA == err || errB == err {
			return api.Area{}, err
		}
	}
	return area(min(a.Addr.Col, b.Addr.Col), min(a.Addr.Row, b.Addr.Row), max(a.Addr.Col, b.Addr.Col), max(a.Addr.Row, b.Addr.Row)), api.OK
}

// short is a text as a failure tells it.
func short(text string) string {
	if len(text) > 60 {
		text = text[:60] + ".."
	}
	return strconv.QuoteToASCII(text)
}

// checkText holds all that is read of a text against the references.
func checkText(t *testing.T, text string) {
	t.Helper()
	r, err := addr.Parse(text)
	if want, e := read(text); r != want || err != e {
		t.Errorf("P10.2: Parse(%s): %v, %d; not %v, %d", short(text), r, err, want, e)
	}
	if n, want := addr.Prefix(text), begins(text); n != want {
		t.Errorf("P10.2: Prefix(%s): %d, not %d", short(text), n, want)
	}
	a, err := addr.ParseArea(text)
	if want, e := readArea(text); a != want || err != e {
		t.Errorf("P10.3: ParseArea(%s): %v, %d; not %v, %d", short(text), a, err, want, e)
	}
}

// parses asks for one answer of Parse.
func parses(t *testing.T, text string, want api.Ref, e api.Errno) {
	t.Helper()
	if r, err := addr.Parse(text); r != want || err != e {
		t.Errorf("P10.2: Parse(%s): %v, %d; not %v, %d", short(text), r, err, want, e)
	}
}

func TestValid(t *testing.T) {
	for _, a := range goodCells() {
		if !addr.Valid(a) {
			t.Error("P10.1: no cell:", a)
		}
	}
	for _, a := range badCells() {
		if addr.Valid(a) {
			t.Error("P10.1: a cell:", a)
		}
	}
	n := 0
	for c := -2; c <= 300; c++ {
		for r := -2; r <= 4200; r++ {
			if addr.Valid(at(c, r)) {
				n++
			}
		}
	}
	if n != 256*4096 {
		t.Error("P10.1: so many cells:", n)
	}
}

func TestOrder(t *testing.T) {
	for _, c := range []struct {
		a, b api.Addr
		want int
	}{
		{at(1, 1), at(1, 1), 0},
		{at(1, 1), at(2, 1), -1},
		{at(1, 1), at(1, 2), -1},
		{at(256, 1), at(1, 2), -1}, // the row counts ahead of the column
		{at(3, 7), at(4, 7), -1},
		{at(far, 1), at(low, 2), -1},
		{at(low, 5), at(far, 5), -1}, // whose difference no int holds
		{at(7, low), at(1, far), -1},
		{at(0, 0), at(0, 1), -1},
		{at(-1, 0), at(0, 0), -1},
		{at(low, low), at(low, low), 0},
		{at(far, far), at(far, far), 0},
	} {
		if k := addr.Order(c.a, c.b); k != c.want {
			t.Errorf("P10.1: Order(%v, %v): %d", c.a, c.b, k)
		}
		if k := addr.Order(c.b, c.a); k != -c.want {
			t.Errorf("P10.1: Order(%v, %v): %d", c.b, c.a, k)
		}
	}
}

// TestOrderIsOne: cells that are laid out by row and column, and sorted by Order, stand as they were laid out.
func TestOrderIsOne(t *testing.T) {
	ints := []int{low, low + 1, -5, -1, 0, 1, 2, 26, 256, 257, 4096, far - 1, far}
	var l []api.Addr
	for _, row := range ints {
		for _, col := range ints {
			l = append(l, at(col, row))
		}
	}
	for i, a := range l {
		for k, b := range l {
			want := 0
			if i < k {
				want = -1
			} else if i > k {
				want = 1
			}
			if got := addr.Order(a, b); got != want {
				t.Fatalf("P10.6: Order(%v, %v): %d", a, b, got)
			}
		}
	}
}

func TestText(t *testing.T) {
	for col, name := range names() {
		for _, row := range goodRows {
			for _, r := range fixes(at(col+1, row)) {
				if s, err := addr.Text(r); s != textOf(r) || err != api.OK {
					t.Errorf("P10.2: Text(%v): %q, %d", r, s, err)
				}
			}
		}
		if s, _ := addr.Text(ref(col+1, 1, false, false)); s != name+"1" {
			t.Errorf("P10.2: column %d: %q", col+1, s)
		}
	}
	for row := 1; row <= 4096; row++ {
		if s, err := addr.Text(ref(27, row, false, true)); s != "AA$"+strconv.Itoa(row) || err != api.OK {
			t.Errorf("P10.2: row %d: %q, %d", row, s, err)
		}
	}
	for r, want := range map[api.Ref]string{
		ref(1, 1, false, false):     "A1",
		ref(1, 1, true, false):      "$A1",
		ref(1, 1, false, true):      "A$1",
		ref(1, 1, true, true):       "$A$1",
		ref(26, 9, false, false):    "Z9",
		ref(27, 10, false, true):    "AA$10",
		ref(52, 10, true, false):    "$AZ10",
		ref(53, 10, false, false):   "BA10",
		ref(256, 4096, true, true):  "$IV$4096",
		ref(255, 4095, false, true): "IU$4095",
	} {
		if s, err := addr.Text(r); s != want || err != api.OK {
			t.Errorf("P10.2: Text(%v): %q, %d; not %q", r, s, err, want)
		}
	}
	for _, a := range badCells() {
		for _, r := range fixes(a) {
			if s, err := addr.Text(r); s != "" || err != api.ErrAddr {
				t.Errorf("P10.2: Text(%v): %q, %d", r, s, err)
			}
		}
	}
}

// TestParseOfText: both ways, in letters of each size.
func TestParseOfText(t *testing.T) {
	for col := 1; col <= 256; col++ {
		for _, row := range goodRows {
			for _, r := range fixes(at(col, row)) {
				s, _ := addr.Text(r)
				low := strings.ToLower(s)
				i := strings.IndexAny(s, "ABCDEFGHIJKLMNOPQRSTUVWXYZ")
				for _, text := range []string{s, low, low[:i] + s[i:i+1] + low[i+1:], s[:i] + low[i:i+1] + s[i+1:]} {
					parses(t, text, r, api.OK)
					if n := addr.Prefix(text); n != len(text) {
						t.Errorf("P10.2: Prefix(%q): %d", text, n)
					}
				}
			}
		}
	}
	for row := 1; row <= 4096; row++ {
		parses(t, "$b"+strconv.Itoa(row), ref(2, row, true, false), api.OK)
	}
	for row := 4097; row <= 50000; row++ {
		parses(t, "b"+strconv.Itoa(row), api.Ref{}, api.ErrAddr)
	}
}

// TestParseColumns: of all names of one to three letters just 256 are columns.
func TestParseColumns(t *testing.T) {
	const abc = "abcdefghijklmnopqrstuvwxyz"
	l := strings.Split(abc, "")
	for i := 0; len(l) < 26+26*26+26*26*26; i++ {
		for _, c := range abc {
			l = append(l, l[i]+string(c))
		}
	}
	for i, name := range l {
		if i < 256 {
			parses(t, name+"1", ref(i+1, 1, false, false), api.OK)
		} else {
			parses(t, name+"1", api.Ref{}, api.ErrAddr)
			if n := addr.Prefix(name + "1"); n != 0 {
				t.Errorf("P10.2: Prefix(%q): %d", name+"1", n)
			}
		}
	}
}

func TestParseErrors(t *testing.T) {
	for _, text := range []string{
		"", "A", "7", "$", "$$", "$A", "$A$", "A$", "$1", "$$1", "A0", "A00", "A01", "A$0", "A$01", "a007",
		"A$$1", "$$A1", "$$A$1", "A1$", "$A1$", "A$1$", "A$1$1", "A1$1", "A$B1", "A$B$1", "$A$B1", "A1A", "A1B2", "1A", "1A1", "A1A1",
		"A 1", "A1 ", " A1", "A1\n", "\nA1", "A\t1", "A1\x00", "\x00A1", "A\x001",
		"A-1", "A+1", "-A1", "A1.0", "A1e1", "A1:", ":A1", "A1:A1", "A,1", "A_1", "R1C1", "A1%", "=A1", "'A1",
		"@1", "[1", "`1", "{1", "A/", "A:", "A1/", "A1:", "A/1", // beside the letters and the digits
		"IW1 ", "IW0", "IW", "IW01", "ZZZZZZ$$1", "A4097x", "A99999999999999999999x", "ZZZZZZZZZZZZZZZZ", // no cell either, but the form is named first
	} {
		parses(t, text, api.Ref{}, api.ErrForm)
		checkText(t, text)
	}
	for _, text := range []string{"IW1", "iw1", "$IW$1", "JA1", "ZZ1", "AAA1", "ZZZ4096", "ZZZZZZZZZZZZZZZZ1", "IW4097", "A4097", "A$4097", "$A9999", "A40960", "A10000", "IV4097", "A99999999999999999999999"} {
		parses(t, text, api.Ref{}, api.ErrAddr)
		checkText(t, text)
	}
}

// TestParseOtherSigns: letters and digits of elsewhere, and bytes that are none.
func TestParseOtherSigns(t *testing.T) {
	for _, text := range []string{
		"\u00c41", "\u00e41", "\uff211", "\uff411", "\u04101", "\u03911", "A\uff11", "A\u0661", "A\u00b9", "A\u2460", "A1\uff11", "A1\u0661",
		"\u017f1", "\u212a1", "\u0131" + "1", "\u0130" + "1", // whose other sizes are of A to Z
		"\uff04A1", "A\uff041", "\ufe69A1", "\ufeffA1", "A\u200b1", "A1\u0301", "\ufffdA1", "A1\ufffd",
		"A1\xff", "\xffA1", "A\xff1", "\xc1A1", "A\xc0\xb11", "A\xe01", "A1\xed\xa0\x80", "A1\xf4\x90\x80\x80", "\x80", "A\x80", "A1\x80",
		"\u01411", "A\u0131", "\u0241\u0131", // whose last bytes, or low bits, are those of A and 1
		"\U00010041\U00010031",
	} {
		parses(t, text, api.Ref{}, api.ErrForm)
		checkText(t, text)
	}
	for b := range 256 {
		for _, text := range []string{string([]byte{byte(b)}) + "1", "A" + string([]byte{byte(b)}), "A1" + string([]byte{byte(b)}), "$A" + string([]byte{byte(b)}) + "1"} {
			checkText(t, text)
		}
	}
	for c := rune(0); c <= 0x2ff; c++ {
		checkText(t, string(c)+"1")
		checkText(t, "A"+string(c))
	}
	// Whatever is added to an int of 8, 16 or 32 bits, a sign of elsewhere is none.
	for _, c := range "Aa1$" {
		for _, more := range []rune{1 << 7, 1 << 8, 1 << 9, 1 << 12, 1 << 16} {
			checkText(t, "A"+string(c+more))
			checkText(t, string(c+more)+"1")
			checkText(t, "A1"+string(c+more))
		}
	}
}

// wraps are the letters of a column's number that is far beyond every int.
func wraps(n *big.Int) string {
	s := ""
	for n = new(big.Int).Set(n); n.Sign() > 0; {
		n.Sub(n, big.NewInt(1))
		m := new(big.Int)
		n.DivMod(n, big.NewInt(26), m)
		s = string(rune('A'+m.Int64())) + s
	}
	return s
}

// TestParseLong: numbers that would be cells, if an int wrapped round, and texts however long.
func TestParseLong(t *testing.T) {
	for _, bits := range []uint{8, 16, 31, 32, 33, 63, 64, 65, 128} {
		for k := -3; k <= 300; k++ {
			n := new(big.Int).Lsh(big.NewInt(1), bits)
			n.Add(n, big.NewInt(int64(k)))
			if n.Cmp(big.NewInt(256)) > 0 {
				parses(t, wraps(n)+"1", api.Ref{}, api.ErrAddr)
			}
			if n.Cmp(big.NewInt(4096)) > 0 {
				parses(t, "A"+n.String(), api.Ref{}, api.ErrAddr)
			}
		}
	}
	const long = 1 << 20
	for _, c := range []string{"A", "z", "Z"} {
		parses(t, strings.Repeat(c, long)+"1", api.Ref{}, api.ErrAddr)
		parses(t, strings.Repeat(c, long), api.Ref{}, api.ErrForm)
		parses(t, strings.Repeat(c, long)+"$0", api.Ref{}, api.ErrForm)
	}
	for _, c := range []string{"0", "1", "9"} {
		parses(t, "$IV$1"+strings.Repeat(c, long), api.Ref{}, api.ErrAddr)
		parses(t, "A1"+strings.Repeat(c, long)+"$", api.Ref{}, api.ErrForm)
		parses(t, "A0"+strings.Repeat(c, long), api.Ref{}, api.ErrForm)
	}
	parses(t, strings.Repeat("Z", long)+strings.Repeat("9", long), api.Ref{}, api.ErrAddr)
	for text, want := range map[string]int{
		strings.Repeat("A", long) + "1":              0,
		"$IV$1" + strings.Repeat("0", long):          8,
		"A1" + strings.Repeat(" ", long):             2,
		"A4096" + strings.Repeat("A1", long):         5,
		strings.Repeat("$", long):                    0,
		strings.Repeat("Z", long):                    0,
		"B" + strings.Repeat("9", long):              4,
		"A4097" + strings.Repeat("0", long):          4,
		strings.Repeat("7", long) + "A1":             0,
		"A" + strings.Repeat("\xff", long) + "1":     0,
		"A12" + strings.Repeat("\U0001f600", long/4): 3,
	} {
		if n := addr.Prefix(text); n != want {
			t.Errorf("P10.2: Prefix(%s): %d, not %d", short(text), n, want)
		}
	}
}

func TestPrefix(t *testing.T) {
	for text, want := range map[string]int{
		"": 0, "A": 0, "1": 0, "$": 0, "$A": 0, "$A$": 0, "A$": 0,
		"A1": 2, "$A1": 3, "A$1": 3, "$A$1": 4, "a1": 2,
		"A12+3": 3, "A1+B2": 2, "A1:B2": 2, "A1 ": 2, " A1": 0, "A1B2": 2, "A1$2": 2, "A1$": 2, "A1A": 2, "A1\xff": 2, "A1\uff11": 2,
		"A40967": 5, "A4097": 4, "A40960": 5, "A4096": 5, "A5000": 4, "A9999": 4, "A99999999": 4, "A10000": 5, "A40961234567890": 5,
		"$IV$40960": 8, "$IV$4096": 8, "$iv$4097x": 7,
		"SUM(": 0, "SUM1(": 0, "$a$1b": 4, "IW1": 0, "IW": 0, "ZZ1": 0, "AAA1": 0, "IV1": 3, "LOG10(": 0, "E5": 2, "e5e5": 2,
		"A0": 0, "A01": 0, "A10": 3, "A100": 4, "A$$1": 0, "$$A1": 0, "A$0": 0, "A$B1": 0,
	} {
		if n := addr.Prefix(text); n != want {
			t.Errorf("P10.2: Prefix(%q): %d, not %d", text, n, want)
		}
		if n := begins(text); n != want {
			t.Errorf("the reference: %q: %d, not %d", text, n, want)
		}
	}
}

// each goes over all texts of at most n of the signs.
func each(signs []string, n int) iter.Seq[string] {
	return func(yield func(string) bool) {
		var longer func(text string, n int) bool
		longer = func(text string, n int) bool {
			if !yield(text) {
				return false
			}
			for _, s := range signs {
				if n > 0 && !longer(text+s, n-1) {
					return false
				}
			}
			return true
		}
		longer("", n)
	}
}

// TestAllTexts: every short text of few signs is read as the references read it.
func TestAllTexts(t *testing.T) {
	for text := range each([]string{"$", "A", "z", "0", "4", ":", " "}, 5) {
		checkText(t, text)
	}
	for text := range each([]string{"$", "I", "v", "W", "1", "9", "\xff"}, 4) {
		checkText(t, text)
		checkText(t, "$I"+text)
		checkText(t, "A409"+text)
	}
	r := rand.New(rand.NewSource(10))
	bits := []string{"$", "A", "iv", "IW", "Zz", "1", "4096", "4097", "0", "9", "409", ":", "$B$7", "c3", "A0", "\xc3", "\u00e9", " "}
	for range 20000 {
		text := ""
		for range r.Intn(7) {
			text += bits[r.Intn(len(bits))]
		}
		checkText(t, text)
	}
}

// TestTextOfParse: what is read is told as it stood, in capitals.
func TestTextOfParse(t *testing.T) {
	n := 0
	for text := range each([]string{"$", "a", "B", "z", "1", "0", "4"}, 6) {
		r, err := addr.Parse(text)
		if err != api.OK {
			continue
		}
		n++
		if s, err := addr.Text(r); s != strings.ToUpper(text) || err != api.OK {
			t.Errorf("P10.6: Text of Parse(%q): %q, %d", text, s, err)
		}
	}
	if n == 0 {
		t.Error("P10.6: none")
	}
}

// goodAreas are areas of one cell, of a row, of a column, of all cells, and others.
func goodAreas() []api.Area {
	return []api.Area{
		area(1, 1, 1, 1), area(256, 4096, 256, 4096), area(1, 4096, 1, 4096), area(256, 1, 256, 1), area(2, 2, 2, 2), area(3, 3, 3, 3),
		area(1, 1, 256, 1), area(1, 4096, 256, 4096), area(1, 7, 256, 7), area(2, 2, 5, 2),
		area(1, 1, 1, 4096), area(256, 1, 256, 4096), area(27, 1, 27, 4096), area(3, 2, 3, 6),
		area(1, 1, 256, 4096), area(1, 1, 3, 3), area(2, 2, 4, 9), area(1, 1, 2, 2), area(3, 3, 5, 5), area(2, 1, 4, 3), area(26, 9, 53, 10), area(255, 4095, 256, 4096),
	}
}

// badAreas are some that may not be.
func badAreas() []api.Area {
	l := []api.Area{
		{}, area(2, 1, 1, 1), area(1, 2, 1, 1), area(2, 2, 1, 1), area(3, 1, 1, 3), area(1, 3, 3, 1), area(256, 4096, 1, 1), area(256, 1, 255, 4096), area(1, 4096, 256, 4095),
		area(low, low, far, far), area(far, far, low, low), area(1, 1, far, far), area(low, low, 256, 4096), area(1, 1, 1, far), area(1, 1, far, 1), area(1, low, 1, 1), area(low, 1, 1, 1),
		area(0, 0, 256, 4096), area(1, 1, 257, 4096), area(1, 1, 256, 4097), area(0, 1, 1, 1), area(1, 0, 1, 1), area(257, 1, 257, 1), area(1, 4097, 1, 4097), area(-3, -3, -1, -1),
	}
	for _, bad := range badCells() {
		l = append(l, api.Area{From: bad, To: at(256, 4096)}, api.Area{From: at(1, 1), To: bad}, api.Area{From: bad, To: bad})
	}
	return l
}

func TestValidArea(t *testing.T) {
	for _, a := range goodAreas() {
		if !addr.ValidArea(a) {
			t.Error("P10.3: may not be:", a)
		}
	}
	for _, a := range badAreas() {
		if addr.ValidArea(a) {
			t.Error("P10.3: may be:", a)
		}
	}
}

func TestArea(t *testing.T) {
	for _, c := range goodAreas() {
		a, b, d, e := c.From.Col, c.From.Row, c.To.Col, c.To.Row
		for _, two := range []api.Area{area(a, b, d, e), area(d, e, a, b), area(d, b, a, e), area(a, e, d, b)} {
			if got, err := addr.Area(two.From, two.To); got != c || err != api.OK {
				t.Errorf("P10.3: Area(%v, %v): %v, %d; not %v", two.From, two.To, got, err, c)
			}
		}
	}
	for _, bad := range badCells() {
		for _, two := range []api.Area{{From: bad, To: at(1, 1)}, {From: at(1, 1), To: bad}, {From: bad, To: at(256, 4096)}, {From: at(256, 4096), To: bad}, {From: bad, To: bad}} {
			if got, err := addr.Area(two.From, two.To); got != (api.Area{}) || err != api.ErrAddr {
				t.Errorf("P10.3: Area(%v, %v): %v, %d", two.From, two.To, got, err)
			}
		}
	}
}

func TestAreaText(t *testing.T) {
	for a, want := range map[api.Area]string{
		area(1, 7, 2, 9):           "A7:B9",
		area(1, 1, 1, 1):           "A1",
		area(256, 4096, 256, 4096): "IV4096",
		area(1, 1, 256, 4096):      "A1:IV4096",
		area(1, 1, 256, 1):         "A1:IV1",
		area(1, 1, 1, 4096):        "A1:A4096",
		area(26, 9, 27, 10):        "Z9:AA10",
		area(52, 5, 53, 5):         "AZ5:BA5",
		area(2, 2, 2, 3):           "B2:B3",
		area(255, 4095, 256, 4096): "IU4095:IV4096",
		area(28, 1000, 28, 1000):   "AB1000",
		area(128, 2048, 256, 2048): "DX2048:IV2048",
		area(1, 4096, 1, 4096):     "A4096",
		area(256, 4095, 256, 4096): "IV4095:IV4096",
		area(100, 100, 100, 100+1): "CV100:CV101",
	} {
		if s, err := addr.AreaText(a); s != want || err != api.OK {
			t.Errorf("P10.3: AreaText(%v): %q, %d; not %q", a, s, err, want)
		}
	}
	for _, a := range badAreas() {
		if s, err := addr.AreaText(a); s != "" || err != api.ErrAddr {
			t.Errorf("P10.3: AreaText(%v): %q, %d", a, s, err)
		}
	}
	for _, a := range goodAreas() {
		s, _ := addr.AreaText(a)
		for _, text := range []string{s, strings.ToLower(s)} {
			if back, err := addr.ParseArea(text); back != a || err != api.OK {
				t.Errorf("P10.6: ParseArea(%q): %v, %d", text, back, err)
			}
		}
	}
}

func TestParseArea(t *testing.T) {
	for text, want := range map[string]api.Area{
		"b9:$A7": area(1, 7, 2, 9), "A7:B9": area(1, 7, 2, 9), "A9:B7": area(1, 7, 2, 9), "B7:A9": area(1, 7, 2, 9),
		"C3": area(3, 3, 3, 3), "$c$3": area(3, 3, 3, 3), "C$3": area(3, 3, 3, 3), "A1:A1": area(1, 1, 1, 1), "$A1:A$1": area(1, 1, 1, 1),
		"$a$1:$iv$4096": area(1, 1, 256, 4096), "IV4096:A1": area(1, 1, 256, 4096), "IV1:A1": area(1, 1, 256, 1), "A4096:A1": area(1, 1, 1, 4096),
	} {
		if a, err := addr.ParseArea(text); a != want || err != api.OK {
			t.Errorf("P10.3: ParseArea(%q): %v, %d; not %v", text, a, err, want)
		}
	}
	for text, want := range map[string]api.Errno{
		"": api.ErrForm, ":": api.ErrForm, "::": api.ErrForm, "A1:": api.ErrForm, ":A1": api.ErrForm, "A1::B2": api.ErrForm, "A1:B2:": api.ErrForm, ":A1:B2": api.ErrForm, "A1:B2:C3": api.ErrForm,
		"A": api.ErrForm, "1": api.ErrForm, "A:B": api.ErrForm, "1:2": api.ErrForm, "A1:B": api.ErrForm, "A1:2": api.ErrForm, "A:B2": api.ErrForm, "A1 :B2": api.ErrForm, "A1: B2": api.ErrForm, "A1;B2": api.ErrForm, "A1\uff1aB2": api.ErrForm,
		"A0:IW1": api.ErrForm, "IW1:A0": api.ErrForm, "IW1:": api.ErrForm, ":IW1": api.ErrForm, "A4097:x": api.ErrForm, "x:A4097": api.ErrForm, "IW1:IW1:IW1": api.ErrForm, "A0:A1": api.ErrForm, "A1:A0": api.ErrForm,
		"A1:IW1": api.ErrAddr, "IW1:A1": api.ErrAddr, "IW1:IW1": api.ErrAddr, "IW1": api.ErrAddr, "A4097": api.ErrAddr, "A1:A4097": api.ErrAddr, "A4097:A1": api.ErrAddr, "ZZZZZZZZZZZZZZZZ1:A99999999999999999999": api.ErrAddr,
	} {
		if a, err := addr.ParseArea(text); a != (api.Area{}) || err != want {
			t.Errorf("P10.3: ParseArea(%q): %v, %d; not %d", text, a, err, want)
		}
	}
}

// has tells whether an area that may be has a cell, written down from the document.
func has(a api.Area, p api.Addr) bool {
	return p.Col >= a.From.Col && p.Col <= a.To.Col && p.Row >= a.From.Row && p.Row <= a.To.Row
}

func TestIn(t *testing.T) {
	for _, a := range goodAreas() {
		for _, p := range goodCells() {
			if got := addr.In(a, p); got != has(a, p) {
				t.Errorf("P10.4: In(%v, %v): %v", a, p, got)
			}
		}
		for _, p := range badCells() {
			if addr.In(a, p) {
				t.Errorf("P10.4: In(%v, %v)", a, p)
			}
		}
		// Each corner is in, and what stands one step beyond it is not.
		from, to := a.From, a.To
		for _, p := range []api.Addr{from, to, at(from.Col, to.Row), at(to.Col, from.Row)} {
			if !addr.In(a, p) {
				t.Errorf("P10.4: not In(%v, %v)", a, p)
			}
		}
		for _, p := range []api.Addr{at(from.Col-1, from.Row), at(from.Col, from.Row-1), at(to.Col+1, to.Row), at(to.Col, to.Row+1)} {
			if addr.In(a, p) {
				t.Errorf("P10.4: In(%v, %v)", a, p)
			}
		}
	}
	for _, a := range badAreas() {
		for _, p := range []api.Addr{a.From, a.To, at(1, 1), at(2, 2), at(256, 4096), at(1, 4096), at(256, 1), {}} {
			if addr.In(a, p) {
				t.Errorf("P10.4: In(%v, %v)", a, p)
			}
		}
	}
}

func TestMeet(t *testing.T) {
	for _, c := range []struct {
		a, b, want api.Area
		is         bool
	}{
		{area(1, 1, 3, 3), area(2, 2, 4, 9), area(2, 2, 3, 3), true},
		{area(1, 1, 3, 3), area(3, 3, 5, 5), area(3, 3, 3, 3), true}, // one cell
		{area(1, 3, 3, 5), area(3, 1, 5, 3), area(3, 3, 3, 3), true}, // the other corner
		{area(1, 1, 5, 3), area(2, 3, 4, 9), area(2, 3, 4, 3), true}, // a row
		{area(1, 1, 3, 5), area(3, 2, 9, 4), area(3, 2, 3, 4), true}, // a column
		{area(1, 1, 9, 9), area(4, 5, 6, 7), area(4, 5, 6, 7), true}, // one within the other
		{area(1, 4, 9, 5), area(3, 1, 4, 9), area(3, 4, 4, 5), true}, // across
		{area(4, 5, 6, 7), area(4, 5, 6, 7), area(4, 5, 6, 7), true}, // itself
		{area(1, 1, 256, 4096), area(7, 8, 7, 8), area(7, 8, 7, 8), true},
		{area(1, 1, 1, 2), area(2, 1, 2, 2), api.Area{}, false}, // beside
		{area(1, 1, 2, 1), area(1, 2, 2, 2), api.Area{}, false}, // above
		{area(1, 1, 2, 2), area(3, 3, 4, 4), api.Area{}, false},
		{area(1, 3, 2, 4), area(3, 1, 4, 2), api.Area{}, false},
		{area(1, 1, 1, 1), area(256, 4096, 256, 4096), api.Area{}, false},
	} {
		for _, two := range [][2]api.Area{{c.a, c.b}, {c.b, c.a}} {
			if m, is := addr.Meet(two[0], two[1]); m != c.want || is != c.is {
				t.Errorf("P10.4: Meet(%v, %v): %v, %v", two[0], two[1], m, is)
			}
		}
	}
	for _, bad := range badAreas() {
		for _, b := range append(goodAreas(), bad, area(2, 1, 1, 1), api.Area{}) {
			for _, two := range [][2]api.Area{{bad, b}, {b, bad}} {
				if m, is := addr.Meet(two[0], two[1]); m != (api.Area{}) || is {
					t.Fatalf("P10.4: Meet(%v, %v): %v, %v", two[0], two[1], m, is)
				}
			}
		}
	}
}

// smallAreas are all areas within the first n columns and rows.
func smallAreas(n int) []api.Area {
	var l []api.Area
	for a := 1; a <= n; a++ {
		for b := 1; b <= n; b++ {
			for c := a; c <= n; c++ {
				for d := b; d <= n; d++ {
					l = append(l, area(a, b, c, d))
				}
			}
		}
	}
	return l
}

// TestMeetHasWhatBothHave: cell by cell, over all small areas.
func TestMeetHasWhatBothHave(t *testing.T) {
	all := smallAreas(4)
	for _, a := range all {
		for _, b := range all {
			m, is := addr.Meet(a, b)
			if back, was := addr.Meet(b, a); back != m || was != is {
				t.Fatalf("P10.6: Meet(%v, %v): %v, %v; the other way round %v, %v", a, b, m, is, back, was)
			}
			some := false
			for p := range addr.Cells(area(1, 1, 5, 5)) {
				both := addr.In(a, p) && addr.In(b, p)
				some = some || both
				if addr.In(m, p) != both {
					t.Fatalf("P10.6: Meet(%v, %v): %v, at %v", a, b, m, p)
				}
			}
			if is != some || is != addr.ValidArea(m) || !is && m != (api.Area{}) {
				t.Fatalf("P10.6: Meet(%v, %v): %v, %v", a, b, m, is)
			}
		}
	}
}

func TestSize(t *testing.T) {
	for a, want := range map[api.Area]int{
		area(1, 1, 3, 3): 9, area(1, 1, 1, 1): 1, area(256, 4096, 256, 4096): 1, area(1, 1, 256, 1): 256, area(5, 1, 5, 4096): 4096, area(1, 1, 256, 4096): 1 << 20,
		area(2, 3, 4, 9): 21, area(2, 2, 2, 3): 2, area(2, 2, 3, 2): 2, area(1, 2, 256, 4096): 256 * 4095,
	} {
		if n := addr.Size(a); n != want {
			t.Errorf("P10.4: Size(%v): %d, not %d", a, n, want)
		}
	}
	for _, a := range badAreas() {
		if n := addr.Size(a); n != 0 {
			t.Errorf("P10.4: Size(%v): %d", a, n)
		}
	}
}

func TestCells(t *testing.T) {
	for a, want := range map[api.Area][]api.Addr{
		area(1, 1, 2, 2):           {at(1, 1), at(2, 1), at(1, 2), at(2, 2)},
		area(3, 3, 3, 3):           {at(3, 3)},
		area(2, 5, 4, 5):           {at(2, 5), at(3, 5), at(4, 5)},
		area(2, 5, 2, 7):           {at(2, 5), at(2, 6), at(2, 7)},
		area(255, 4095, 256, 4096): {at(255, 4095), at(256, 4095), at(255, 4096), at(256, 4096)},
		area(26, 9, 28, 10):        {at(26, 9), at(27, 9), at(28, 9), at(26, 10), at(27, 10), at(28, 10)},
	} {
		if l := slices.Collect(addr.Cells(a)); !slices.Equal(l, want) {
			t.Errorf("P10.4: Cells(%v): %v", a, l)
		}
	}
	for _, a := range badAreas() {
		seq := addr.Cells(a)
		if seq == nil {
			t.Fatalf("R5: Cells(%v) is nil", a)
		}
		for p := range seq {
			t.Fatalf("P10.4: Cells(%v) has %v", a, p)
		}
	}
}

// TestCellsAreWhatInHas: as many as Size says, rising, which In has, and no other.
func TestCellsAreWhatInHas(t *testing.T) {
	for _, a := range append(goodAreas(), smallAreas(3)...) {
		n := 0
		var last api.Addr
		for p := range addr.Cells(a) {
			if n > 0 && addr.Order(last, p) >= 0 || !addr.In(a, p) || !addr.Valid(p) {
				t.Fatalf("P10.6: Cells(%v): %v behind %v", a, p, last)
			}
			last = p
			n++
		}
		if n != addr.Size(a) {
			t.Fatalf("P10.6: Cells(%v): %d of %d", a, n, addr.Size(a))
		}
	}
}

// TestCellsIterator: left early at each place, gone over again, within itself, and pulled one by one.
func TestCellsIterator(t *testing.T) {
	seq := addr.Cells(area(1, 1, 3, 2))
	want := []api.Addr{at(1, 1), at(2, 1), at(3, 1), at(1, 2), at(2, 2), at(3, 2)}
	for stop := 1; stop <= len(want); stop++ {
		var l []api.Addr
		for p := range seq {
			l = append(l, p)
			if len(l) == stop {
				break
			}
		}
		if !slices.Equal(l, want[:stop]) {
			t.Errorf("R5: left behind %d: %v", stop, l)
		}
		// Asked with no range about it: behind a false there is no further call.
		calls := 0
		seq(func(api.Addr) bool { calls++; return calls < stop })
		if calls != stop {
			t.Errorf("R5: left behind %d: %d calls", stop, calls)
		}
	}
	var outer, inner []api.Addr
	for p := range seq {
		outer = append(outer, p)
		inner = nil
		for q := range seq {
			inner = append(inner, q)
			for r := range seq {
				if r != want[0] {
					t.Error("R5:", r)
				}
				break
			}
		}
		if !slices.Equal(inner, want) {
			t.Error("R5: within itself:", inner)
		}
	}
	if !slices.Equal(outer, want) {
		t.Error("R5: about itself:", outer)
	}
	next, stop := iter.Pull(seq)
	defer stop()
	for _, w := range want {
		if p, ok := next(); p != w || !ok {
			t.Error("R5: pulled:", p, ok)
		}
	}
	if p, ok := next(); ok {
		t.Error("R5: pulled:", p)
	}
}

// moved is what Shift must answer, with numbers of any size.
func moved(r api.Ref, cols, rows int) (api.Ref, bool) {
	col, row := big.NewInt(int64(r.Addr.Col)), big.NewInt(int64(r.Addr.Row))
	cell := func() bool {
		one := big.NewInt(1)
		return col.Cmp(one) >= 0 && col.Cmp(big.NewInt(256)) <= 0 && row.Cmp(one) >= 0 && row.Cmp(big.NewInt(4096)) <= 0
	}
	if !cell() {
		return api.Ref{}, false
	}
	if !r.ColFixed {
		col.Add(col, big.NewInt(int64(cols)))
	}
	if !r.RowFixed {
		row.Add(row, big.NewInt(int64(rows)))
	}
	if !cell() {
		return api.Ref{}, false
	}
	return ref(int(col.Int64()), int(row.Int64()), r.ColFixed, r.RowFixed), true
}

func TestShift(t *testing.T) {
	for _, c := range []struct {
		r          api.Ref
		cols, rows int
		want       api.Ref
		is         bool
	}{
		{ref(1, 1, false, false), 1, 1, ref(2, 2, false, false), true},
		{ref(1, 1, false, false), 0, 0, ref(1, 1, false, false), true},
		{ref(1, 1, true, false), 5, 1, ref(1, 2, true, false), true},
		{ref(1, 1, false, true), 5, 1, ref(6, 1, false, true), true},
		{ref(1, 1, true, true), 5, 1, ref(1, 1, true, true), true},
		{ref(1, 1, false, false), -1, 0, api.Ref{}, false},
		{ref(1, 1, false, false), 0, -1, api.Ref{}, false},
		{ref(1, 1, false, false), 255, 4095, ref(256, 4096, false, false), true},
		{ref(1, 1, false, false), 256, 0, api.Ref{}, false},
		{ref(1, 1, false, false), 0, 4096, api.Ref{}, false},
		{ref(256, 4096, false, false), -255, -4095, ref(1, 1, false, false), true},
		{ref(256, 4096, false, false), -256, 0, api.Ref{}, false},
		{ref(256, 4096, false, false), 0, -4096, api.Ref{}, false},
		{ref(256, 4096, false, false), 1, 0, api.Ref{}, false},
		{ref(256, 4096, false, false), 0, 1, api.Ref{}, false},
		{ref(256, 4096, true, true), 1, 1, ref(256, 4096, true, true), true},
		{ref(1, 1, true, false), low, -1, api.Ref{}, false},
		{ref(1, 1, false, true), -1, low, api.Ref{}, false},
		{ref(1, 1, false, false), far, 0, api.Ref{}, false},
		{ref(1, 1, false, false), 0, far, api.Ref{}, false},
		{ref(1, 1, false, false), low, low, api.Ref{}, false},
		{ref(1, 1, true, true), far, low, ref(1, 1, true, true), true},
		{ref(2, 2, true, false), far, 7, ref(2, 9, true, false), true},
		{ref(2, 2, false, true), 7, low, ref(9, 2, false, true), true},
	} {
		if r, is := addr.Shift(c.r, c.cols, c.rows); r != c.want || is != c.is {
			t.Errorf("P10.5: Shift(%v, %d, %d): %v, %v; not %v, %v", c.r, c.cols, c.rows, r, is, c.want, c.is)
		}
	}
}

// ways are ways to shift by: to each limit, one beyond, and far off.
func ways(n, limit int) []int {
	return []int{0, 1, -1, 1 - n, -n, limit - n, limit - n + 1, limit, -limit, limit + 1, -limit - 1, low, low + 1, far, far - 1, 1 << 32, -1 << 32, 1 << 16, -1 << 16}
}

func TestShiftThereAndBack(t *testing.T) {
	for _, a := range goodCells() {
		for _, r := range fixes(a) {
			for _, cols := range ways(a.Col, 256) {
				for _, rows := range ways(a.Row, 4096) {
					got, is := addr.Shift(r, cols, rows)
					if want, ok := moved(r, cols, rows); got != want || is != ok {
						t.Fatalf("P10.5: Shift(%v, %d, %d): %v, %v; not %v, %v", r, cols, rows, got, is, want, ok)
					}
					// The least int has no way back that an int holds.
					if !is || cols == low || rows == low {
						continue
					}
					if back, is := addr.Shift(got, -cols, -rows); back != r || !is {
						t.Fatalf("P10.6: Shift(%v, %d, %d) and back: %v, %v", r, cols, rows, back, is)
					}
				}
			}
		}
	}
	for _, a := range badCells() {
		for _, r := range fixes(a) {
			for _, by := range []api.Addr{at(0, 0), at(1, 1), at(-1, -1), at(far, far), at(low, low), at(1-a.Col, 1-a.Row), at(-a.Col, 256)} {
				if got, is := addr.Shift(r, by.Col, by.Row); got != (api.Ref{}) || is {
					t.Fatalf("P10.5: Shift(%v, %v): %v, %v", r, by, got, is)
				}
			}
		}
	}
}
