package lines_test

import (
	"fmt"
	"math"
	"math/rand"
	"regexp"
	"strconv"
	"strings"
	"testing"
	"unicode/utf8"

	"quadrille/api"
	"quadrille/formula"
	"quadrille/grid"
	"quadrille/lines"
	"quadrille/show"
	"quadrille/write"
)

// A model of the chapter, by the library's own means, against which the calls are held by chance.

var (
	decimal = regexp.MustCompile(`^[+-]?([0-9]+\.?[0-9]*|\.[0-9]+)([eE][+-]?[0-9]+)?$`)
	hexa    = regexp.MustCompile(`^[+-]?0[xX]([0-9a-fA-F]+\.?[0-9a-fA-F]*|\.[0-9a-fA-F]+)([pP][+-]?[0-9]+)?$`)
	named   = regexp.MustCompile(`^([A-Z]+)([1-9][0-9]*)$`)
	inText  = regexp.MustCompile(`^([^\x00-\x1f\x7f\\]|\\\\|\\n|\\x(0[0-9b-f]|1[0-9a-f]|7f))*$`)
	oneByte = regexp.MustCompile(`\\(\\|n|x[0-9a-f][0-9a-f])`)
)

func modelNumber(s string) (float64, bool) {
	switch s {
	case "NaN":
		return math.Float64frombits(0x7ff8 << 48), true
	case "Inf", "+Inf":
		return math.Inf(1), true
	case "-Inf":
		return math.Inf(-1), true
	}
	if hexa.MatchString(s) && !strings.ContainsAny(s, "pP") {
		s += "p0"
	} else if !hexa.MatchString(s) && !decimal.MatchString(s) {
		return 0, false
	}
	x, err := strconv.ParseFloat(s, 64)
	return x, err == nil
}

// modelShort is a number as few figures tell it.
func modelShort(x float64) string {
	switch {
	case x != x:
		return "NaN"
	case math.IsInf(x, 0):
		return strings.TrimPrefix(strconv.FormatFloat(x, 'g', -1, 64), "+")
	}
	s := strconv.FormatFloat(x, 'e', -1, 64)
	front, exp, _ := strings.Cut(s, "e")
	if k, _ := strconv.Atoi(exp); k < -7 || k > 20 {
		return fmt.Sprintf("%se%d", front, k)
	}
	return strconv.FormatFloat(x, 'f', -1, 64)
}

func modelWord(s string) (api.Value, bool) {
	if x, is := modelNumber(s); is {
		return num(x).V, true
	}
	ascii := len(s) == utf8.RuneCountInString(s)
	for i, w := range []string{"FALSE", "TRUE", "#DIV!", "#NUM!", "#VALUE!", "#REF!", "#NONE!"} {
		if ascii && strings.ToUpper(s) == w {
			if i < 2 {
				return truth(i == 1).V, true
			}
			return fault(i - 1).V, true
		}
	}
	return api.Value{}, false
}

func modelKept(s string) (api.Content, api.Errno) {
	if string([]rune(s)) != s { // what is no letter becomes one of three other bytes
		return api.Content{}, api.ErrForm
	}
	if len(s) > 1024 {
		return api.Content{}, api.ErrLong
	}
	return text(s), api.OK
}

func modelBare(s string) (api.Content, api.Errno) {
	trimmed := s
	for strings.HasPrefix(trimmed, " ") {
		trimmed = trimmed[1:]
	}
	for strings.HasSuffix(trimmed, " ") {
		trimmed = trimmed[:len(trimmed)-1]
	}
	if v, is := modelWord(trimmed); is {
		return api.Content{Kind: api.Plain, V: v}, api.OK
	}
	return modelKept(s)
}

func modelEntry(s string) (c api.Content, bad api.Mishap) {
	switch {
	case len(s) > 4097:
		bad.Code = api.ErrLong
	case s == "":
	case strings.HasPrefix(s, "="):
		c = api.Content{Kind: api.Formula}
		c.F, bad = formula.Parse(s[1:])
		if bad.Code != api.OK {
			return api.Content{}, api.Mishap{Code: bad.Code, At: bad.At + 1}
		}
	case strings.HasPrefix(s, "'"):
		c, bad.Code = modelKept(s[1:])
	default:
		c, bad.Code = modelBare(s)
	}
	return c, bad
}

// modelContent is what stands behind a line's cell.
func modelContent(s string) (api.Content, api.Errno) {
	if s == "" {
		return api.Content{}, api.ErrForm
	}
	if s[0] == '=' || s[0] == '\'' {
		if !inText.MatchString(s[1:]) {
			return api.Content{}, api.ErrForm
		}
		plain := oneByte.ReplaceAllStringFunc(s[1:], func(in string) string {
			switch in[1] {
			case 'x':
				n, _ := strconv.ParseUint(in[2:], 16, 8)
				return string([]byte{byte(n)})
			case 'n':
				return "\n"
			}
			return "\\"
		})
		if s[0] == '=' {
			n, bad := formula.Parse(plain)
			if bad.Code != api.OK {
				return api.Content{}, bad.Code
			}
			if t, err := write.Text(n); err != api.OK || t != plain {
				return api.Content{}, api.ErrForm
			}
			return api.Content{Kind: api.Formula, F: n}, api.OK
		}
		if !utf8.ValidString(plain) || len(plain) > 1024 {
			return api.Content{}, api.ErrForm
		}
		return text(plain), api.OK
	}
	v, is := modelWord(s)
	if !is || v.Kind == api.Number && modelShort(v.X) != s || v.Kind != api.Number && strings.ToUpper(s) != s {
		return api.Content{}, api.ErrForm
	}
	return api.Content{Kind: api.Plain, V: v}, api.OK
}

// modelCell is the cell that a text names, in capitals, nothing fixed.
func modelCell(s string) (api.Addr, bool) {
	m := named.FindStringSubmatch(s)
	if m == nil || len(m[1]) > 2 || len(m[2]) > 4 {
		return api.Addr{}, false
	}
	col := 0
	for _, r := range m[1] {
		col = col*26 + int(r-'A') + 1
	}
	row, _ := strconv.Atoi(m[2])
	return xy(col, row), col <= 256 && row <= 4096
}

func modelRead(s string) (*grid.Grid, api.Mishap) {
	if len(s) > 1<<22 {
		return nil, api.Mishap{Code: api.ErrLong}
	}
	all := strings.SplitAfter(s, "\n")
	if all[0] != "quadrille 1\n" {
		return nil, api.Mishap{Code: api.ErrHead, At: 1}
	}
	g, seen, last := grid.New(), map[api.Addr]bool{}, -1
	for i := 1; ; i++ {
		bad := func(code api.Errno) (*grid.Grid, api.Mishap) { return nil, api.Mishap{Code: code, At: i + 1} }
		if i == len(all) || !strings.HasSuffix(all[i], "\n") {
			return bad(api.ErrForm)
		}
		line := strings.TrimSuffix(all[i], "\n")
		if strings.HasPrefix(line, "end") {
			if line != fmt.Sprint("end ", len(seen)) || strings.Join(all[i+1:], "") != "" {
				return bad(api.ErrForm)
			}
			return g, api.Mishap{}
		}
		part := strings.SplitN(line, " ", 2)
		at, is := modelCell(part[0])
		place := at.Row*1000 + at.Col
		switch {
		case !is:
			return bad(api.ErrAddr)
		case seen[at]:
			return bad(api.ErrTwice)
		case place < last:
			return bad(api.ErrForm)
		case len(seen) == 4096:
			return bad(api.ErrFull)
		}
		seen[at], last = true, place
		c, err := modelContent(strings.Join(part[1:], ""))
		if err != api.OK {
			return bad(err)
		}
		put(g, at, c)
	}
}

func modelTable(l []api.Cell, a api.Area, f api.Format) string {
	var b strings.Builder
	for row := a.From.Row; row <= a.To.Row; row++ {
		for col := a.From.Col; col <= a.To.Col; col++ {
			if col > a.From.Col {
				b.WriteString(",")
			}
			for i := len(l) - 1; i >= 0; i-- {
				if l[i].At == xy(col, row) {
					b.WriteString(modelField(l[i].V, f))
					break
				}
			}
		}
		b.WriteString("\n")
	}
	return b.String()
}

func modelField(v api.Value, f api.Format) string {
	quoted := func(s string) string { return `"` + strings.Join(strings.Split(s, `"`), `""`) + `"` }
	switch v.Kind {
	case api.Number:
		s, _ := show.Show(v.X, f)
		if strings.Contains(s, ",") {
			return quoted(s)
		}
		return s
	case api.Text:
		if _, is := modelWord(v.S); is || v.S == "" || strings.Trim(v.S, " ") != v.S || strings.ContainsAny(v.S, ",\"\r\n") {
			return quoted(v.S)
		}
		return v.S
	case api.Truth:
		return map[bool]string{true: "TRUE", false: "FALSE"}[v.B]
	case api.Fault:
		return []string{"#DIV!", "#NUM!", "#VALUE!", "#REF!", "#NONE!"}[v.F-1]
	}
	return ""
}

// modelNumbers goes from byte to byte, and knows in what it is.
func modelNumbers(s string, at api.Addr) ([]api.Put, api.Mishap) {
	const (
		begins = iota
		bare
		quoted
		quote // one quote within quotes: it ends, or is doubled
	)
	var puts []api.Put
	spot, state, from, field := at, begins, 0, ""
	var bad api.Mishap
	done := func() {
		c, err := api.Content{}, api.OK
		switch {
		case state == quoted:
			err = api.ErrForm
		case state == quote:
			c, err = modelKept(field)
		case field != "":
			c, err = modelBare(field)
		}
		if err == api.OK && c.Kind != api.Empty {
			if spot.Col > 256 || spot.Row > 4096 {
				err = api.ErrAddr
			} else if len(puts) == 4096 {
				err = api.ErrMany
			}
			puts = append(puts, api.Put{At: spot, C: c})
		}
		if err != api.OK {
			bad = api.Mishap{Code: err, At: from}
		}
		state, field = begins, ""
	}
	for i := 0; i < len(s) && bad.Code == api.OK; i++ {
		b := s[i]
		if state == begins {
			from = i
		}
		newline := b == '\n' || b == '\r' && i+1 < len(s) && s[i+1] == '\n'
		switch {
		case state == quoted && b == '"':
			state = quote
		case state == quoted:
			field += string([]byte{b})
		case state == quote && b == '"':
			state, field = quoted, field+`"`
		case newline:
			done()
			if b == '\r' {
				i++
			}
			spot = xy(at.Col, spot.Row+1)
		case b == ',':
			done()
			spot.Col++
		case state == quote:
			bad = api.Mishap{Code: api.ErrForm, At: from}
		case state == begins && b == '"':
			state = quoted
		default:
			state, field = bare, field+string([]byte{b})
		}
	}
	if bad.Code == api.OK && state != begins {
		done()
	}
	if bad.Code != api.OK {
		return nil, bad
	}
	return puts, bad
}

// chance draws texts, contents and grids.
type chance struct{ *rand.Rand }

func draw[T any](r chance, l []T) T { return l[r.Intn(len(l))] }

// piece is a small part of a text, mostly one that some call looks at.
func (r chance) piece() string {
	switch r.Intn(9) {
	case 0:
		return string([]byte{byte(r.Intn(256))})
	case 1:
		return draw(r, []string{" ", " ", "'", "=", "\"", "\"\"", ",", "\n", "\r\n", "\r", "\\", "\\n", "\\x", "\\x01", "\\x0a", "\\\\"})
	case 2:
		return draw(r, []string{"0", "1", "5", "-", "+", ".", "e", "0x", "Inf", "NaN", "1e999", "00", "p1"})
	case 3:
		return draw(r, []string{"TRUE", "false", "True", "#REF!", "#div!", "#", "!"})
	case 4:
		return draw(r, []string{"A1", "B2", "$A$1", "SUM(", ")", "1+", "*2", "a1", "\"x\"", "&", "%", ":"})
	case 5:
		return draw(r, []string{"é", "日", "a", "b", "end", "end 1", "\x7f", "\x00", "\x1f", "\xff"})
	}
	return string(rune('a' + r.Intn(4)))
}

func (r chance) text() string {
	var b strings.Builder
	for range r.Intn(5) {
		b.WriteString(r.piece())
	}
	return b.String()
}

// word is the text of a number, a truth or a fault, perhaps spoilt.
func (r chance) word() string {
	s := draw(r, []string{"0", "-0", "1", "1.5", "-2.25", ".5", "5.", "1e21", "1e-9", "0x1p3", "0xA", "TRUE", "FALSE", "true", "fAlse", "#DIV!", "#NUM!", "#value!", "#REF!", "#NONE!", "Inf", "-Inf", "NaN", "+Inf", "1e999", "+7"})
	if r.Intn(4) == 0 {
		s = modelShort(r.number())
	}
	if r.Intn(5) == 0 {
		i := r.Intn(len(s) + 1)
		s = s[:i] + r.piece() + s[i:]
	}
	return s
}

func (r chance) number() float64 {
	switch r.Intn(6) {
	case 0:
		return draw(r, []float64{0, minus, math.Inf(1), math.Inf(-1), math.Float64frombits(0x7ff8 << 48), math.MaxFloat64, 5e-324, 0x1p-1022, 1e21, 1e20, 1e-7, 9.99e-8})
	case 1:
		return math.Ldexp(r.NormFloat64(), r.Intn(100)-50)
	case 2:
		return float64(r.Intn(2000) - 1000)
	case 3:
		return float64(r.Intn(20000)-10000) / 100
	case 4:
		return float64(1+r.Intn(9)) * math.Pow10(r.Intn(40)-20)
	}
	x := math.Float64frombits(r.Uint64())
	if x != x {
		x = 1
	}
	return x
}

// right is a text that a cell may have.
func (r chance) right() string {
	if s := r.text(); utf8.ValidString(s) {
		return s
	}
	return r.right()
}

func (r chance) value() api.Value {
	switch r.Intn(6) {
	case 0:
		return truth(r.Intn(2) == 0).V
	case 1:
		return fault(1 + r.Intn(5)).V
	case 2:
		return num(r.number()).V
	case 3:
		if w := r.word(); utf8.ValidString(w) {
			return text(w).V
		}
	}
	return text(r.right()).V
}

// node is a formula so many nodes deep at most.
func (r chance) node(deep int) api.Node {
	if deep <= 1 {
		switch r.Intn(5) {
		case 0:
			return api.Node{Kind: api.NodeText, S: r.right()}
		case 1:
			return api.Node{Kind: api.NodeTruth, B: r.Intn(2) == 0}
		case 2:
			return api.Node{Kind: api.NodeFault, F: 1 + r.Intn(5)}
		case 3:
			x := math.Abs(r.number())
			if x != x || math.IsInf(x, 0) {
				x = 0.1
			}
			return api.Node{Kind: api.NodeNumber, X: x}
		}
		return api.Node{Kind: api.NodeRef, Ref: r.ref()}
	}
	switch r.Intn(3) {
	case 0:
		return api.Node{Kind: api.NodeUnary, Op: 1 + r.Intn(3), Args: []api.Node{r.node(deep - 1)}}
	case 1:
		return api.Node{Kind: api.NodeBinary, Op: 4 + r.Intn(12), Args: []api.Node{r.node(deep - 1), r.node(deep - 1 - r.Intn(2))}}
	}
	n := api.Node{Kind: api.NodeCall, S: "JOIN"}
	for range 1 + r.Intn(3) {
		n.Args = append(n.Args, r.node(deep-1))
	}
	if r.Intn(3) == 0 {
		a, b := r.ref(), r.ref()
		a.Addr.Col, b.Addr.Col = min(a.Addr.Col, b.Addr.Col), max(a.Addr.Col, b.Addr.Col)
		a.Addr.Row, b.Addr.Row = min(a.Addr.Row, b.Addr.Row), max(a.Addr.Row, b.Addr.Row)
		n.Args[0] = api.Node{Kind: api.NodeArea, Ref: a, To: b}
	}
	return n
}

func (r chance) ref() api.Ref {
	return api.Ref{Addr: xy(1+r.Intn(256), 1+r.Intn(4096)), ColFixed: r.Intn(3) == 0, RowFixed: r.Intn(3) == 0}
}

func (r chance) content() api.Content {
	if r.Intn(3) == 0 {
		return api.Content{Kind: api.Formula, F: r.node(1 + r.Intn(4))}
	}
	return api.Content{Kind: api.Plain, V: r.value()}
}

// near is a cell, mostly one among few.
func (r chance) near() api.Addr {
	if r.Intn(10) == 0 {
		return xy(1+r.Intn(256), 1+r.Intn(4096))
	}
	return xy(1+r.Intn(4), 1+r.Intn(4))
}

func (r chance) grid() *grid.Grid {
	g := grid.New()
	for range r.Intn(8) {
		put(g, r.near(), r.content())
	}
	return g
}

// spoilt is a text with some pieces put in, taken out, or put elsewhere.
func (r chance) spoilt(s string) string {
	for range r.Intn(3) {
		i := r.Intn(len(s) + 1)
		j := min(len(s), i+r.Intn(3))
		switch r.Intn(4) {
		case 0:
			s = s[:i] + r.piece() + s[i:]
		case 1:
			s = s[:i] + s[j:]
		case 2:
			s = s[:i] + r.piece() + s[j:]
		case 3: // two lines change places, one stands twice, or is gone
			l := strings.SplitAfter(s, "\n")
			a, b := r.Intn(len(l)), r.Intn(len(l))
			l[a], l[b] = l[b], l[a]
			if r.Intn(2) == 0 {
				l[a] = l[b]
			}
			s = strings.Join(l, "")
		}
	}
	return s
}

func TestModelEntry(t *testing.T) {
	r := chance{rand.New(rand.NewSource(23))}
	kinds := map[string]int{}
	for range 60000 {
		s := r.text()
		if r.Intn(2) == 0 {
			s = strings.Repeat(" ", r.Intn(3)) + r.word() + strings.Repeat(" ", r.Intn(3))
		}
		if r.Intn(6) == 0 {
			s = draw(r, []string{"=", "'"}) + s
		}
		want, mishap := modelEntry(s)
		c, bad := lines.Entry(s)
		if bad != mishap || told(c) != told(want) {
			t.Fatalf("P23.1: Entry(%q): %s, not %s; %s", s, told(c), told(want), mishaps(bad, mishap))
		}
		kinds[fmt.Sprint(bad.Code, c.Kind, c.V.Kind)]++
	}
	if len(kinds) < 10 {
		t.Errorf("too few kinds of answers: %v", kinds)
	}
}

func TestModelRead(t *testing.T) {
	r := chance{rand.New(rand.NewSource(24))}
	codes := map[api.Errno]int{}
	for range 40000 {
		s, err := lines.Write(r.grid())
		if err != api.OK {
			t.Fatalf("P23.3: Write: error %d", err)
		}
		if r.Intn(3) == 0 {
			s = strings.Replace(s, " ", draw(r, []string{" 1\n", " '\n", " ", " =", " '", "\n"}), 1+r.Intn(3))
		}
		s = r.spoilt(s)
		if r.Intn(4) > 0 && !strings.HasPrefix(s, head) {
			s = head + s
		}
		want, mishap := modelRead(s)
		g, bad := lines.Read(s)
		if bad != mishap || toldGrid(g) != toldGrid(want) {
			t.Fatalf("P23.4: Read(%q): %s, not %s; %s", s, short(toldGrid(g)), short(toldGrid(want)), mishaps(bad, mishap))
		}
		codes[bad.Code]++
		if bad.Code == api.OK {
			if again, err := lines.Write(g); err != api.OK || again != s {
				t.Fatalf("P23.7: Write of Read(%q): %q, error %d", s, again, err)
			}
		}
	}
	for _, code := range []api.Errno{api.OK, api.ErrForm, api.ErrAddr, api.ErrTwice, api.ErrHead, api.ErrSyntax, api.ErrEnd, api.ErrWord, api.ErrName} {
		if codes[code] < 20 {
			t.Errorf("too few answers with error %d: %v", code, codes)
		}
	}
}

func TestModelTable(t *testing.T) {
	r := chance{rand.New(rand.NewSource(25))}
	formats := []api.Format{general, general, {Kind: api.General, Places: 3, Width: 7}, {Kind: api.Fixed, Places: 2, Group: true}, {Kind: api.Fixed, Width: 5}, {Kind: api.Scientific, Places: 3}, {Kind: api.Percent, Places: 1, Group: true}, {Kind: api.Fraction, Places: 2}}
	for range 20000 {
		var l []api.Cell
		for range r.Intn(12) {
			one := api.Cell{At: r.near(), V: r.value()}
			if r.Intn(8) == 0 {
				one.V = api.Value{}
			}
			l = append(l, one)
		}
		a := api.Area{From: xy(1+r.Intn(3), 1+r.Intn(3))}
		a.To = xy(a.From.Col+r.Intn(4), a.From.Row+r.Intn(4))
		f := draw(r, formats)
		tables(t, l, a, f, modelTable(l, a, f))
		if t.Failed() {
			return
		}
	}
}

func TestModelNumbers(t *testing.T) {
	r := chance{rand.New(rand.NewSource(26))}
	codes := map[api.Errno]int{}
	for range 60000 {
		var b strings.Builder
		for range r.Intn(8) {
			switch r.Intn(5) {
			case 0:
				b.WriteString(r.piece())
			case 1:
				b.WriteString(strings.Repeat(" ", r.Intn(2)) + r.word() + strings.Repeat(" ", r.Intn(2)))
			case 2:
				b.WriteString(modelField(text(r.right()).V, general))
			case 3:
				b.WriteString(`"` + strings.ReplaceAll(r.text(), `"`, `""`) + `"`)
			}
			b.WriteString(draw(r, []string{",", ",", "\n", "\r\n", "", ",,"}))
		}
		at := r.near()
		if r.Intn(5) == 0 {
			at = xy(254+r.Intn(3), 4094+r.Intn(3))
		}
		want, mishap := modelNumbers(b.String(), at)
		puts, bad := lines.Numbers(b.String(), at)
		if bad != mishap || toldPuts(puts) != toldPuts(want) {
			t.Fatalf("P23.6: Numbers(%q, %v): %s, not %s; %s", b.String(), at, toldPuts(puts), toldPuts(want), mishaps(bad, mishap))
		}
		codes[bad.Code]++
	}
	if codes[api.OK] < 10000 || codes[api.ErrForm] < 1000 || codes[api.ErrAddr] < 1000 {
		t.Errorf("too few kinds of answers: %v", codes)
	}
}
