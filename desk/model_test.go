package desk_test

import (
	"encoding/hex"
	"fmt"
	"math/rand"
	"regexp"
	"strconv"
	"strings"

	"quadrille/addr"
	"quadrille/api"
	"quadrille/formula"
	"quadrille/grid"
	"quadrille/lines"
	"quadrille/live"
	"quadrille/move"
	"quadrille/packed"
	"quadrille/show"
	"quadrille/value"
	"quadrille/whole"
)

// A model of the chapter: all contents that were there as grids, each worked out at once where it is asked; words by patterns.
type model struct {
	now           *grid.Grid
	behind, ahead []*grid.Grid
	gathers       bool
	puts          []api.Put
}

func newModel() *model { return &model{now: grid.New()} }

// forms tell what stands behind a command.
var forms = map[string]string{
	"put": "CELL REST", "empty": "CELL", "begin": "", "end": "", "drop": "", "undo": "", "redo": "", "backs": "", "get": "CELL", "show": "CELL FORMAT", "typed": "CELL", "users": "CELL", "count": "", "bounds": "",
	"rows": "NUMBER NUMBER", "cols": "NUMBER NUMBER", "copy": "AREA CELL", "fill": "CELL AREA", "move": "AREA CELL", "clear": "AREA", "row": "CELL REST", "table": "AREA FORMAT", "write": "", "pack": "", "unpack": "HEX",
}

var (
	wordForm   = regexp.MustCompile(`[^ ]+`)
	numberForm = regexp.MustCompile(`^-?[0-9]{1,9}$`)
	hexForm    = regexp.MustCompile(`^(-|([0-9a-f][0-9a-f])+)$`)
)

// said is what a line gives to a command, in the model.
type said struct {
	name    string
	cell    api.Addr
	area    api.Area
	format  api.Format
	numbers []int
	bytes   string
	rest    string
	restAt  int
}

func bad(code api.Errno, at int) api.Mishap { return api.Mishap{Code: code, At: at} }

// parse is what a line says, by the first three steps of P25.1.
func parse(line string) (s said, m api.Mishap) {
	if len(line) > 65536 {
		return s, bad(api.ErrLong, 0)
	}
	if i := strings.Index(line, "\n"); i >= 0 {
		return s, bad(api.ErrForm, i)
	}
	words := wordForm.FindAllStringIndex(line, -1)
	s.name = line[words[0][0]:words[0][1]]
	form, is := forms[s.name]
	if !is {
		return s, bad(api.ErrCommand, words[0][0])
	}
	due := strings.Fields(form)
	if len(due) > 0 && due[len(due)-1] == "REST" {
		due = due[:len(due)-1]
		if len(words) > len(due)+1 {
			words = words[:len(due)+1]
		}
		if end := words[len(words)-1][1]; end < len(line) {
			s.rest, s.restAt = line[end+1:], end+1
		}
	}
	if len(words)-1 < len(due) {
		return s, bad(api.ErrCommand, len(line))
	}
	if len(words)-1 > len(due) {
		return s, bad(api.ErrCommand, words[len(due)+1][0])
	}
	for i, kind := range due {
		at := words[i+1][0]
		if err := s.word(kind, line[at:words[i+1][1]]); err != api.OK {
			return s, bad(err, at)
		}
	}
	return s, m
}

func (s *said) word(kind, text string) (err api.Errno) {
	switch kind {
	case "CELL":
		var r api.Ref
		r, err = addr.Parse(text)
		s.cell = r.Addr
	case "AREA":
		s.area, err = addr.ParseArea(text)
	case "FORMAT":
		s.format, err = show.Read(text)
	case "NUMBER":
		if !numberForm.MatchString(text) {
			return api.ErrForm
		}
		n, _ := strconv.ParseInt(text, 10, 64)
		s.numbers = append(s.numbers, int(n))
	case "HEX":
		if !hexForm.MatchString(text) {
			return api.ErrForm
		}
		b, _ := hex.DecodeString(strings.TrimPrefix(text, "-"))
		s.bytes = string(b)
	}
	return err
}

func (m *model) do(line string) (string, api.Mishap) {
	if strings.HasPrefix(line, "#") || strings.Trim(line, " ") == "" {
		return "", api.Mishap{}
	}
	s, no := parse(line)
	if no.Code != api.OK {
		return "", no
	}
	switch s.name {
	case "end", "drop":
		if !m.gathers {
			return "", bad(api.ErrBack, 0)
		}
	case "begin", "undo", "redo", "rows", "cols", "copy", "fill", "move", "clear", "row", "unpack":
		if m.gathers {
			return "", bad(api.ErrBack, 0)
		}
	}
	if answer, no, is := m.ask(s); is {
		return answer, no
	}
	return "", m.change(s)
}

// shown is what a cell shows on a sheet that is worked out at once.
func (m *model) shown(at api.Addr) api.Value {
	l, err := whole.Calc(m.now)
	if err != api.OK {
		panic(err)
	}
	for _, c := range l {
		if c.At == at {
			return c.V
		}
	}
	return api.Value{}
}

// ask answers a question, if it is one.
func (m *model) ask(s said) (string, api.Mishap, bool) {
	answer, err := "", api.OK
	switch s.name {
	case "backs":
		answer = fmt.Sprint(len(m.behind), " ", len(m.ahead))
	case "get", "show":
		v := m.shown(s.cell)
		switch {
		case v.Kind == api.Fault:
			answer = []string{"", "#DIV!", "#NUM!", "#VALUE!", "#REF!", "#NONE!"}[v.F]
		case v.Kind == api.Number && s.name == "show":
			answer, err = show.Show(v.X, s.format)
		default:
			answer, _ = value.Str(v)
		}
	case "typed":
		answer, err = lines.Typed(m.now.Get(s.cell))
	case "users":
		var l []string
		for at, c := range m.now.All() {
			uses := false
			for _, a := range formula.Uses(c.F) {
				uses = uses || addr.In(a, s.cell)
			}
			if uses && c.Kind == api.Formula {
				name, _ := addr.Text(api.Ref{Addr: at})
				l = append(l, name)
			}
		}
		answer = strings.Join(l, " ")
	case "count":
		answer = fmt.Sprint(m.now.Len())
	case "bounds":
		if a, is := m.now.Bounds(); is {
			answer, err = addr.AreaText(a)
		}
	case "table":
		var l []api.Cell
		l, _ = whole.Calc(m.now)
		answer, err = lines.Table(l, s.area, s.format)
	case "write":
		answer, err = lines.Write(m.now)
	case "pack":
		answer, err = packed.Pack(m.now)
		answer = hex.EncodeToString([]byte(answer))
	default:
		return "", api.Mishap{}, false
	}
	return answer, bad(err, 0), true
}

// change does all that is no question.
func (m *model) change(s said) api.Mishap {
	var g *grid.Grid
	err := api.OK
	switch s.name {
	case "put":
		c, no := lines.Entry(s.rest)
		if no.Code != api.OK {
			return bad(no.Code, s.restAt+no.At)
		}
		return m.put(api.Put{At: s.cell, C: c})
	case "empty":
		return m.put(api.Put{At: s.cell})
	case "begin":
		m.gathers, m.puts = true, nil
		return api.Mishap{}
	case "drop":
		m.gathers = false
		return api.Mishap{}
	case "end":
		m.gathers = false
		return m.batch(m.puts)
	case "row":
		l, no := lines.Numbers(s.rest, s.cell)
		if no.Code != api.OK {
			return bad(no.Code, s.restAt+no.At)
		}
		return m.batch(l)
	case "undo":
		return pass(&m.now, &m.behind, &m.ahead)
	case "redo":
		return pass(&m.now, &m.ahead, &m.behind)
	case "rows":
		g, err = move.Rows(m.now, s.numbers[0], s.numbers[1])
	case "cols":
		g, err = move.Cols(m.now, s.numbers[0], s.numbers[1])
	case "copy":
		g, err = move.Copy(m.now, s.area, s.cell)
	case "fill":
		g, err = move.Fill(m.now, s.cell, s.area)
	case "move":
		g, err = move.Move(m.now, s.area, s.cell)
	case "clear":
		g, err = move.Clear(m.now, s.area)
	case "unpack":
		g, err = packed.Unpack(s.bytes)
	}
	if err == api.OK {
		_, err = live.From(g)
	}
	if err != api.OK {
		return bad(err, 0)
	}
	m.step(g)
	return api.Mishap{}
}

func (m *model) put(p api.Put) api.Mishap {
	if m.gathers {
		m.puts = append(m.puts, p)
		return api.Mishap{}
	}
	return m.batch([]api.Put{p})
}

func (m *model) batch(puts []api.Put) api.Mishap {
	s, _ := live.From(m.now)
	if n, err := s.Set(puts...); err != api.OK {
		return bad(err, n)
	}
	m.step(s.Grid())
	return api.Mishap{}
}

func (m *model) step(g *grid.Grid) {
	if g.Equal(m.now) {
		return
	}
	m.behind = append(m.behind, m.now)
	m.behind = m.behind[max(0, len(m.behind)-64):]
	m.now, m.ahead = g, nil
}

func pass(now **grid.Grid, from, to *[]*grid.Grid) api.Mishap {
	last := len(*from) - 1
	if last < 0 {
		return bad(api.ErrBack, 0)
	}
	*to = append(*to, *now)
	*now, *from = (*from)[last], (*from)[:last]
	return api.Mishap{}
}

// chance draws lines.
type chance struct{ *rand.Rand }

func (r chance) pick(l ...string) string { return l[r.Intn(len(l))] }

// rarely is true once in so many times.
func (r chance) rarely(n int) bool { return r.Intn(n) == 0 }

func (r chance) cell() string {
	if r.rarely(40) {
		return r.pick("A0", "IW1", "x", "A4097", "A1:B2", "$$A1", "1", "B")
	}
	col, row := r.pick("A", "A", "B", "B", "C", "c", "$A", "$b"), r.pick("1", "1", "2", "2", "3", "4", "$1", "$3")
	if r.rarely(60) {
		return r.pick("IV", "Z", "AA") + r.pick("1", "4096", "100")
	}
	return col + row
}

func (r chance) area() string {
	if r.rarely(40) {
		return r.pick("A1:", "A1:B2:C3", "A0:B1", "A1:IW1", "-")
	}
	if r.rarely(3) {
		return r.cell()
	}
	return r.cell() + ":" + r.cell()
}

func (r chance) format() string {
	if r.rarely(12) {
		return r.pick("f", "F2", "q9", "f2:0", "x")
	}
	return r.pick("g0", "g17", "f2", "f2,", "f0:8", "s3", "p1", "q2", "f1:3")
}

func (r chance) number() string {
	if r.rarely(12) {
		return r.pick("x", "+1", "1.5", "1234567890", "-", "--1", "0x1")
	}
	return r.pick("1", "1", "1", "2", "2", "3", "-1", "-1", "-2", "0", "-0", "003", "4095", "256", "257", "4097", "-999999999")
}

// formula is a formula's text, some of which have mishaps.
func (r chance) formula(deep int) string {
	if deep == 0 || r.rarely(3) {
		return r.pick(r.cell(), r.cell(), r.cell(), "1", "0", "2.5", "-0", `"a"`, `""`, "TRUE", "#REF!", "1e308")
	}
	switch r.Intn(6) {
	case 0:
		return "SUM(" + r.area() + ")"
	case 1:
		return r.pick("MAX", "AVERAGE", "COUNT", "MODE") + "(" + r.area() + "," + r.formula(deep-1) + ")"
	case 2:
		return "IF(" + r.formula(deep-1) + "," + r.formula(deep-1) + "," + r.formula(deep-1) + ")"
	case 3:
		return r.pick("(", "-", "-(", "+") + r.formula(deep-1) + r.pick(")", "", "%", ")")
	}
	return r.formula(deep-1) + r.pick("+", "-", "*", "/", "^", "&", "=", "<", " + ") + r.formula(deep-1)
}

func (r chance) rest() string {
	switch r.Intn(8) {
	case 0, 1, 2:
		return "=" + r.formula(2)
	case 3:
		return r.pick("", "", " ", "   ", "'", "''", "' ", "=", "=1+", "= ")
	case 4:
		return r.pick("\xff", "a\xffb", "é", "'\x7f", "a b  c", " x ", "x,y", `"q"`, "# x", "put A1 1", "\t", "\r", "#DIV!", "true", "'TRUE", "1e999", "NaN", "-Inf", "-0")
	}
	return strconv.FormatFloat(float64(r.Intn(400)-200)/8, 'g', -1, 64)
}

func (r chance) fields() string {
	var l []string
	for range r.Intn(5) {
		l = append(l, r.pick(r.rest(), r.rest(), `"a"`, `"a,""b"" "`, `"`, `"a"b`, "", " "))
	}
	return strings.Join(l, ",")
}

// hex is a file in digits, or something like one.
func (r chance) hex() string {
	g := grid.New()
	for range r.Intn(4) {
		at, _ := addr.Parse(r.cell())
		c, _ := lines.Entry(r.rest())
		g.Put(at.Addr, c)
	}
	b, _ := packed.Pack(g)
	s := hex.EncodeToString([]byte(b))
	switch r.Intn(8) {
	case 0:
		return r.pick("-", "0", "00", "--", strings.ToUpper(s), s+"0", s[2:], s[:len(s)-2], s+"00")
	case 1:
		i := r.Intn(len(s))
		return s[:i] + r.pick("0", "1", "7", "a", "f", "g", "-") + s[i+1:]
	}
	return s
}

// words are a command and what stands behind it, mostly as it should be.
func (r chance) words(name string) []string {
	words := []string{name}
	for _, kind := range strings.Fields(forms[name]) {
		switch kind {
		case "CELL":
			words = append(words, r.cell())
		case "AREA":
			words = append(words, r.area())
		case "FORMAT":
			words = append(words, r.format())
		case "NUMBER":
			words = append(words, r.number())
		case "HEX":
			words = append(words, r.hex())
		case "REST":
			if name == "row" {
				words = append(words, r.fields())
			} else {
				words = append(words, r.rest())
			}
		}
	}
	switch r.Intn(60) {
	case 0:
		return words[:r.Intn(len(words)+1)]
	case 1:
		return append(words, r.pick("x", "A1", "#", "1"))
	case 2:
		words[0] = r.pick("x", "GET", "Put", "g", "pu", "rowss", "", "#", "get,", "'put")
	}
	return words
}

// line is a line of any command; puts stand there most often.
func (r chance) line() string {
	name := r.pick("put", "put", "put", "put", "put", "put", "put", "put", "get", "get", "empty", "begin", "end", "end", "drop", "undo", "undo", "redo", "redo", "backs", "show", "typed", "users", "count", "bounds", "rows", "cols", "copy", "copy", "fill", "move", "clear", "row", "row", "table", "write", "pack", "unpack")
	line := strings.Join(r.words(name), " ")
	switch r.Intn(20) {
	case 0:
		return blanks(r.Intn(4)) + line
	case 1:
		return strings.ReplaceAll(line, " ", blanks(1+r.Intn(3)))
	case 2:
		return line + blanks(r.Intn(3))
	case 3:
		if r.rarely(3) {
			return r.pick("", " ", "#"+line, " #"+line, "    ")
		}
	case 4:
		if r.rarely(4) {
			i := r.Intn(len(line) + 1)
			return line[:i] + r.pick("\n", "\t", "\r", "\x00", " ") + line[i:]
		}
	}
	return line
}
