package write_test

import (
	"fmt"
	"math"
	"math/rand"
	"slices"
	"strings"
	"testing"

	"quadrille/addr"
	"quadrille/api"
	"quadrille/formula"
	"quadrille/lex"
	"quadrille/number"
	"quadrille/write"
)

// The makers of nodes say each field that the document gives a meaning; all else is zero.

func num(x float64) api.Node { return api.Node{Kind: 1, X: x} }

func txt(s string) api.Node { return api.Node{Kind: 2, S: s} }

func truth(b bool) api.Node { return api.Node{Kind: 3, B: b} }

func fault(f int) api.Node { return api.Node{Kind: 4, F: f} }

func at(col, row int) api.Ref { return api.Ref{Addr: api.Addr{Col: col, Row: row}} }

func fixed(col, row int, colFixed, rowFixed bool) api.Ref {
	return api.Ref{Addr: api.Addr{Col: col, Row: row}, ColFixed: colFixed, RowFixed: rowFixed}
}

func named(r api.Ref) api.Node { return api.Node{Kind: 5, Ref: r} }

func ref(col, row int) api.Node { return named(at(col, row)) }

func area(from, to api.Ref) api.Node { return api.Node{Kind: 6, Ref: from, To: to} }

func un(op int, a api.Node) api.Node { return api.Node{Kind: 7, Op: op, Args: []api.Node{a}} }

func bin(op int, a, b api.Node) api.Node {
	return api.Node{Kind: 8, Op: op, Args: []api.Node{a, b}}
}

func call(name string, l ...api.Node) api.Node { return api.Node{Kind: 9, S: name, Args: l} }

// chain is a node under so many more.
func chain(n api.Node, above int) api.Node {
	for range above {
		n = un(2, n)
	}
	return n
}

// told is a node with all its fields, lists as they stand, numbers by their bits.
func told(n api.Node) string {
	args := make([]string, len(n.Args))
	for i, a := range n.Args {
		args[i] = told(a)
	}
	return fmt.Sprintf("{%d %d %x %q %v %d %v %v [%s]}", n.Kind, n.Op, math.Float64bits(n.X), n.S, n.B, n.F, n.Ref, n.To, strings.Join(args, " "))
}

// short is a text as a failure tells it.
func short(s string) string {
	if len(s) > 300 {
		s = s[:300] + ".."
	}
	return s
}

// lists are all lists of a node, each as long as its room is.
func lists(n api.Node) [][]api.Node {
	l := [][]api.Node{n.Args[:cap(n.Args)]}
	for _, a := range n.Args {
		l = append(l, lists(a)...)
	}
	return l
}

// roomy is a node of the same fields, each list of which, empty ones too, has spare room that is written over.
func roomy(n api.Node) api.Node {
	list := make([]api.Node, 0, len(n.Args)+2)
	for _, a := range n.Args {
		list = append(list, roomy(a))
	}
	full := append(list, num(-77), call("SPARE", ref(9, 9)))
	n.Args = full[:len(n.Args)]
	return n
}

// snapshot is what a node and all its spare room hold.
func snapshot(n api.Node) string {
	parts := []string{told(n)}
	for _, l := range lists(n) {
		for _, a := range l {
			parts = append(parts, told(a))
		}
		parts = append(parts, ";")
	}
	return strings.Join(parts, " ")
}

// writeOver writes over all lists of a node, their spare room too.
func writeOver(n api.Node) {
	for _, l := range lists(n) {
		for i := range l {
			l[i] = txt("over")
		}
	}
}

// read is the formula of a text.
func read(t *testing.T, text string) api.Node {
	t.Helper()
	n, bad := formula.Parse(text)
	if bad.Code != api.OK {
		t.Fatalf("Parse(%s): %v", short(text), bad)
	}
	return n
}

// isRead tells whether a text is read as that formula.
func isRead(text string, n api.Node) bool {
	m, bad := formula.Parse(text)
	return bad.Code == api.OK && formula.Same(m, n) && formula.Same(n, m)
}

// checkWritten holds Text and Spaced against two texts; what they are handed stays as it was.
func checkWritten(t *testing.T, n api.Node, text, spaced string) {
	t.Helper()
	n = roomy(n)
	was := snapshot(n)
	if s, err := write.Text(n); s != text || err != api.OK {
		t.Errorf("P13.1: Text(%s): %q, %d; not %q", short(was), short(s), err, short(text))
	}
	if s, err := write.Spaced(n); s != spaced || err != api.OK {
		t.Errorf("P13.1: Spaced(%s): %q, %d; not %q", short(was), short(s), err, short(spaced))
	}
	if snapshot(n) != was {
		t.Errorf("R3: what is written has been changed: %s", short(was))
	}
}

// checkFollows checks what P13.3 says of a formula whose texts are not too long.
func checkFollows(t *testing.T, n api.Node) {
	t.Helper()
	for _, f := range []func(api.Node) (string, api.Errno){write.Text, write.Spaced} {
		s, err := f(n)
		if err != api.OK {
			t.Errorf("P13.3: %s: %d", short(told(n)), err)
			continue
		}
		if !isRead(s, n) {
			t.Errorf("P13.3: %s is not read as %s", short(s), short(told(n)))
		}
		for _, p := range pairs(s) {
			if less := s[:p[0]] + s[p[0]+1:p[1]] + s[p[1]+1:]; isRead(less, n) {
				t.Errorf("P13.3: of %s a pair of parentheses can be left out: %s", short(s), short(less))
			}
		}
	}
}

// pairs are the places of each two parentheses of a formula's text that go together, those of calls too.
func pairs(text string) [][2]int {
	var l [][2]int
	var open []int
	for w := range lex.Each(text) {
		switch {
		case w.Kind != lex.Sign:
		case w.Text == "(":
			open = append(open, w.At)
		case w.Text == ")":
			l = append(l, [2]int{open[len(open)-1], w.At})
			open = open[:len(open)-1]
		}
	}
	return l
}

// The examples of the chapter.
func TestTextExamples(t *testing.T) {
	for _, row := range [][2]string{
		{"(1+2)*3", "(1+2)*3"}, {"1+(2*3)", "1+2*3"}, {"1-(2-3)", "1-(2-3)"}, {"(1-2)-3", "1-2-3"},
		{"-(2^2)", "-2^2"}, {"(-2)^2", "(-2)^2"}, {"2^(-1)", "2^-1"}, {"2^(-(1^3))", "2^(-1^3)"}, {"(2^-1)^3", "2^-1^3"}, {"2^(3^4)", "2^(3^4)"},
		{"(2^3)%", "(2^3)%"}, {"2^(3%)", "2^3%"}, {"-(a1%)", "-A1%"}, {"(-A1)%", "(-A1)%"}, {"-(1+2)", "-(1+2)"}, {"--1", "--1"}, {"1--1", "1--1"},
		{"sum( a1 : $b$2 , 2 )", "SUM(A1:$B$2,2)"}, {`if((1<2),"x""y",true)`, `IF(1<2,"x""y",TRUE)`}, {"(1=2)=3", "1=2=3"}, {"1=(2=3)", "1=(2=3)"}, {"1&(2+3)", "1&2+3"},
		{"0.10", "0.1"}, {"0x10", "16"}, {"1e30", "1e30"}, {"#REF!+1", "#REF!+1"},
	} {
		if s, err := write.Text(read(t, row[0])); s != row[1] || err != api.OK {
			t.Errorf("P13.1: Text of %s: %s, %d; not %s", row[0], s, err, row[1])
		}
	}
	for _, row := range [][2]string{{"-1*2<=sum(A1,B2%)", "-1 * 2 <= SUM(A1, B2%)"}, {"2^-1", "2 ^ -1"}} {
		if s, err := write.Spaced(read(t, row[0])); s != row[1] || err != api.OK {
			t.Errorf("P13.1: Spaced of %s: %s, %d; not %s", row[0], s, err, row[1])
		}
	}
	checkRefused(t, num(-1), api.ErrArg)
	checkRefused(t, api.Node{Args: []api.Node{num(1), num(2)}}, api.ErrArg)
}

// P13.1: nodes without parts.
func TestOnes(t *testing.T) {
	check := func(n api.Node, text string) {
		t.Helper()
		checkWritten(t, n, text, text)
		checkFollows(t, n)
		checkWritten(t, call("IF", n, un(2, n)), "IF("+text+",-"+text+")", "IF("+text+", -"+text+")")
		checkWritten(t, bin(4, n, un(3, n)), text+"+"+text+"%", text+" + "+text+"%")
	}
	for text, x := range map[string]float64{
		"0": 0, "1": 1, "16": 16, "0.1": 0.1, "0.5": 0.5, "1234.5": 1234.5, "100000000000000000000": 1e20, "1e21": 1e21, "1.25e30": 1.25e30, "0.0000001": 1e-7, "1e-8": 1e-8, "1.5e-8": 1.5e-8,
		"5e-324": 0x1p-1074, "2.2250738585072014e-308": 0x1p-1022, "1.7976931348623157e308": math.MaxFloat64, "9007199254740992": 1 << 53, "0.30000000000000004": 0.30000000000000004,
	} {
		check(num(x), text)
	}
	for s, text := range map[string]string{
		"": `""`, "a": `"a"`, `"`: `""""`, `""`: `""""""`, `x"y`: `"x""y"`, `"x"`: `"""x"""`, "(": `"("`, ")": `")"`, ",": `","`, "a,b+c": `"a,b+c"`, " ": `" "`, "\x00": "\"\x00\"", "\n": "\"\n\"", "é€\U0010ffff": "\"é€\U0010ffff\"", "TRUE": `"TRUE"`, "A1": `"A1"`, "small": `"small"`,
		strings.Repeat("a", 1024): `"` + strings.Repeat("a", 1024) + `"`, strings.Repeat("é", 512): `"` + strings.Repeat("é", 512) + `"`,
	} {
		check(txt(s), text)
	}
	quotes := `"` + strings.Repeat(`""`, 1024) + `"`
	checkWritten(t, txt(strings.Repeat(`"`, 1024)), quotes, quotes)
	checkFollows(t, txt(strings.Repeat(`"`, 1024)))
	check(truth(true), "TRUE")
	check(truth(false), "FALSE")
	for i, text := range []string{"#DIV!", "#NUM!", "#VALUE!", "#REF!", "#NONE!"} {
		check(fault(1+i), text)
	}
	for text, r := range map[string]api.Ref{
		"A1": at(1, 1), "$A1": fixed(1, 1, true, false), "A$1": fixed(1, 1, false, true), "$A$1": fixed(1, 1, true, true), "Z9": at(26, 9), "AA10": at(27, 10), "$AZ$52": fixed(52, 52, true, true), "BA53": at(53, 53),
		"IV4096": at(256, 4096), "$IV4096": fixed(256, 4096, true, false), "IV$4096": fixed(256, 4096, false, true), "$IV$4096": fixed(256, 4096, true, true), "IV1": at(256, 1), "A4096": at(1, 4096),
	} {
		check(named(r), text)
	}
	check(call("NA"), "NA()")
}

// marked is a cell's text with its marks.
func marked(name, row string, colFixed, rowFixed bool) string {
	if colFixed {
		name = "$" + name
	}
	if rowFixed {
		row = "$" + row
	}
	return name + row
}

// P13.1: areas, with each of their marks.
func TestAreas(t *testing.T) {
	for marks := range 16 {
		a, b, c, d := marks&1 != 0, marks&2 != 0, marks&4 != 0, marks&8 != 0
		for _, row := range []struct {
			from, to             api.Ref
			col, row, col2, row2 string
		}{
			{fixed(1, 1, a, b), fixed(2, 2, c, d), "A", "1", "B", "2"},
			{fixed(1, 1, a, b), fixed(1, 1, c, d), "A", "1", "A", "1"},
			{fixed(3, 7, a, b), fixed(3, 9, c, d), "C", "7", "C", "9"},
			{fixed(3, 7, a, b), fixed(256, 7, c, d), "C", "7", "IV", "7"},
			{fixed(1, 1, a, b), fixed(256, 4096, c, d), "A", "1", "IV", "4096"},
		} {
			text := marked(row.col, row.row, a, b) + ":" + marked(row.col2, row.row2, c, d)
			n := area(row.from, row.to)
			checkWritten(t, call("SUM", n), "SUM("+text+")", "SUM("+text+")")
			checkWritten(t, call("SUM", num(1), n, n), "SUM(1,"+text+","+text+")", "SUM(1, "+text+", "+text+")")
			checkFollows(t, call("SUM", n))
			checkFollows(t, call("SUM", n, un(2, call("ABS", n)), n))
		}
	}
}

// P13.1: calls, of each function and of each number of Args; none of these stands in parentheses.
func TestCalls(t *testing.T) {
	names := 0
	for _, name := range strings.Fields("NA ABS INT ISBLANK ISERROR ISNUMBER ISTEXT LEN NOT SIGN SINGLE SQRT TRUNC VALUE EXACT IFERROR LARGE LEFT MOD PERCENTILE POWER REPT RIGHT ROUND ROUNDDOWN ROUNDEVEN ROUNDUP SMALL SUMPRODUCT TEXT IF RANK COUNTIF FUSED MID AND AVERAGE COUNT COUNTA JOIN MAX MEDIAN MIN MODE OR STDEV STDEVP SUM SUMSQ VAR VARP CHOOSE") {
		names++
		least, most, _ := formula.Known(name)
		for n := least; n <= min(most, 5); n++ {
			l, texts := make([]api.Node, n), make([]string, n)
			for i := range l {
				l[i], texts[i] = num(float64(i)), fmt.Sprint(i)
			}
			checkWritten(t, call(name, l...), name+"("+strings.Join(texts, ",")+")", name+"("+strings.Join(texts, ", ")+")")
			checkFollows(t, call(name, l...))
		}
	}
	if names != 52 {
		t.Errorf("%d names", names)
	}
	for op := 1; op <= 15; op++ {
		n, text, spaced := ofOp(op)
		checkWritten(t, call("SUM", n), "SUM("+text+")", "SUM("+spaced+")")
		checkWritten(t, call("CHOOSE", n, num(7), n), "CHOOSE("+text+",7,"+text+")", "CHOOSE("+spaced+", 7, "+spaced+")")
		checkFollows(t, call("CHOOSE", n, num(7), n))
	}
	n := call("NA")
	checkWritten(t, call("SUM", n, call("SUM", n, n)), "SUM(NA(),SUM(NA(),NA()))", "SUM(NA(), SUM(NA(), NA()))")
}

// sign is an operation's sign.
func sign(op int) string { return strings.Fields("+ - % + - * / ^ & = <> < <= > >=")[op-1] }

// ofOp is an operation of 1, or of 1 and 2, and its texts.
func ofOp(op int) (n api.Node, text, spaced string) {
	switch {
	case op <= 2:
		return un(op, num(1)), sign(op) + "1", sign(op) + "1"
	case op == 3:
		return un(op, num(1)), "1%", "1%"
	}
	return bin(op, num(1), num(2)), "1" + sign(op) + "2", "1 " + sign(op) + " 2"
}

// around is a text in parentheses, if they stand there.
func around(text string, stand bool) string {
	if stand {
		return "(" + text + ")"
	}
	return text
}

// P13.1: each operation as a part of each other one; where parentheses stand is told operation by operation.
func TestEachInEach(t *testing.T) {
	// Of each operation: those which stand in parentheses as its left part and as its right one (of one part: as that).
	comparisons := "10 11 12 13 14 15"
	left := map[int]string{
		4: comparisons + " 9", 5: comparisons + " 9", 6: comparisons + " 9 4 5", 7: comparisons + " 9 4 5", 8: comparisons + " 9 4 5 6 7 1 2", 9: comparisons,
		10: "", 11: "", 12: "", 13: "", 14: "", 15: "",
	}
	right := map[int]string{
		1: comparisons + " 9 4 5 6 7", 2: comparisons + " 9 4 5 6 7", 3: comparisons + " 9 4 5 6 7 1 2 8",
		4: comparisons + " 9 4 5", 5: comparisons + " 9 4 5", 6: comparisons + " 9 4 5 6 7", 7: comparisons + " 9 4 5 6 7", 8: comparisons + " 9 4 5 6 7 8", 9: comparisons + " 9",
		10: comparisons, 11: comparisons, 12: comparisons, 13: comparisons, 14: comparisons, 15: comparisons,
	}
	stands := func(list string, op int) bool { return slices.Contains(strings.Fields(list), fmt.Sprint(op)) }
	for op := 1; op <= 15; op++ {
		for in := 1; in <= 15; in++ {
			n, text, spaced := ofOp(in)
			r := stands(right[op], in)
			switch {
			case op <= 2:
				checkWritten(t, un(op, n), sign(op)+around(text, r), sign(op)+around(spaced, r))
				checkFollows(t, un(op, n))
				continue
			case op == 3:
				checkWritten(t, un(op, n), around(text, r)+"%", around(spaced, r)+"%")
				checkFollows(t, un(op, n))
				continue
			}
			l := stands(left[op], in)
			s := sign(op)
			for _, row := range []struct {
				n            api.Node
				text, spaced string
			}{
				{bin(op, n, ref(1, 1)), around(text, l) + s + "A1", around(spaced, l) + " " + s + " A1"},
				{bin(op, ref(1, 1), n), "A1" + s + around(text, r), "A1 " + s + " " + around(spaced, r)},
				{bin(op, n, n), around(text, l) + s + around(text, r), around(spaced, l) + " " + s + " " + around(spaced, r)},
			} {
				checkWritten(t, row.n, row.text, row.spaced)
				checkFollows(t, row.n)
			}
		}
	}
}

// P13.1: signs behind a `^`, one and several, over each level, and these below others.
func TestPowersOfSigns(t *testing.T) {
	for _, signs := range []string{"-", "+", "--", "-+", "+-", "++", "-+-", "----", "+++++"} {
		behind := func(n api.Node) api.Node {
			for _, b := range slices.Backward([]byte(signs)) {
				n = un(map[byte]int{'+': 1, '-': 2}[b], n)
			}
			return bin(8, num(3), n)
		}
		for op := 1; op <= 15; op++ {
			n, text, spaced := ofOp(op)
			want, wantSpaced := signs+text, signs+spaced
			switch {
			case op == 8:
				want, wantSpaced = "("+want+")", "("+wantSpaced+")"
			case op >= 4:
				want, wantSpaced = signs+"("+text+")", signs+"("+spaced+")"
			}
			checkWritten(t, behind(n), "3^"+want, "3 ^ "+wantSpaced)
			checkFollows(t, behind(n))
		}
		for _, n := range []api.Node{num(1), txt("a"), truth(true), fault(2), ref(1, 1), call("NA"), call("SUM", bin(8, num(1), num(2)))} {
			text, _ := write.Text(n)
			spaced, _ := write.Spaced(n)
			checkWritten(t, behind(n), "3^"+signs+text, "3 ^ "+signs+spaced)
			checkFollows(t, behind(n))
		}
		// A `%` over a power hides it; so does a call; a power's own right part counts for nothing.
		checkWritten(t, behind(un(3, bin(8, num(1), num(2)))), "3^"+signs+"(1^2)%", "3 ^ "+signs+"(1 ^ 2)%")
		checkWritten(t, behind(un(3, un(3, num(1)))), "3^"+signs+"1%%", "3 ^ "+signs+"1%%")
		checkWritten(t, behind(bin(8, num(1), un(2, num(2)))), "3^("+signs+"1^-2)", "3 ^ ("+signs+"1 ^ -2)")
		// Such a power within others.
		p := behind(num(1))
		text := "3^" + signs + "1"
		spaced := "3 ^ " + signs + "1"
		checkWritten(t, bin(8, p, num(4)), text+"^4", spaced+" ^ 4")
		checkWritten(t, bin(8, num(4), p), "4^("+text+")", "4 ^ ("+spaced+")")
		checkWritten(t, bin(8, num(4), un(2, p)), "4^(-"+text+")", "4 ^ (-"+spaced+")")
		checkWritten(t, un(2, p), "-"+text, "-"+spaced)
		checkWritten(t, un(3, p), "("+text+")%", "("+spaced+")%")
		checkWritten(t, bin(6, p, p), text+"*"+text, spaced+" * "+spaced)
		checkWritten(t, bin(8, un(2, p), p), "(-"+text+")^("+text+")", "(-"+spaced+") ^ ("+spaced+")")
		for _, n := range []api.Node{bin(8, p, num(4)), bin(8, num(4), p), bin(8, num(4), un(2, p)), un(2, p), un(3, p), bin(6, p, p), bin(8, un(2, p), p), behind(bin(8, num(1), un(2, num(2))))} {
			checkFollows(t, n)
		}
	}
}

// levelOf is the level of a formula, as the chapter's list has it.
func levelOf(n api.Node) int {
	if n.Kind != 7 && n.Kind != 8 {
		return 8
	}
	return []int{5, 5, 7, 3, 3, 4, 4, 6, 2, 1, 1, 1, 1, 1, 1}[n.Op-1]
}

// reckoned is a formula's text by the words of the chapter, gap being what Spaced puts in.
func reckoned(n api.Node, gap string) string {
	inside := make([]string, len(n.Args))
	for i, a := range n.Args {
		inside[i] = reckoned(a, gap)
	}
	cell := func(r api.Ref) string {
		s, _ := addr.Text(r)
		return s
	}
	switch n.Kind {
	case 1:
		return number.Short(n.X)
	case 2:
		return `"` + strings.ReplaceAll(n.S, `"`, `""`) + `"`
	case 3:
		return strings.ToUpper(fmt.Sprint(n.B))
	case 4:
		return strings.Fields("#DIV! #NUM! #VALUE! #REF! #NONE!")[n.F-1]
	case 5:
		return cell(n.Ref)
	case 6:
		return cell(n.Ref) + ":" + cell(n.To)
	case 7:
		l := levelOf(n.Args[0])
		if n.Op == 3 {
			return around(inside[0], l >= 1 && l <= 6) + "%"
		}
		return sign(n.Op) + around(inside[0], l >= 1 && l <= 4)
	case 8:
		return around(inside[0], levelOf(n.Args[0]) < levelOf(n)) + gap + sign(n.Op) + gap + around(inside[1], rightStands(n))
	}
	return n.S + "(" + strings.Join(inside, ","+gap) + ")"
}

// rightStands tells whether the right part of an operation stands in parentheses.
func rightStands(n api.Node) bool {
	right := n.Args[1]
	l := levelOf(right)
	if n.Op != 8 {
		return l <= levelOf(n)
	}
	if l != 5 {
		return l <= 4 || l == 6
	}
	for right.Kind == 7 && right.Op != 3 {
		right = right.Args[0]
	}
	return levelOf(right) == 6
}

// checkReckoned holds both texts of a formula against what they are reckoned to be.
func checkReckoned(t *testing.T, n api.Node) {
	t.Helper()
	for gap, f := range map[string]func(api.Node) (string, api.Errno){"": write.Text, " ": write.Spaced} {
		want, wantErr := reckoned(n, gap), api.OK
		if len(want) > 4096 {
			want, wantErr = "", api.ErrLong
		}
		if s, err := f(n); s != want || err != wantErr {
			t.Errorf("P13.1: %s: %q, %d; not %q, %d", short(told(n)), short(s), err, short(want), wantErr)
		}
	}
}

// grown are all formulas of an operation, at one of whose sides that part stands.
func grown(n api.Node) []api.Node {
	var l []api.Node
	for op := 1; op <= 15; op++ {
		if op <= 3 {
			l = append(l, un(op, n))
			continue
		}
		l = append(l, bin(op, n, num(8)), bin(op, num(9), n))
	}
	return l
}

// P13.1, P13.3: all operations three deep, of every side; of those of each level's first one, four deep.
func TestAllThreeDeep(t *testing.T) {
	count := 0
	for op := 1; op <= 15; op++ {
		n, _, _ := ofOp(op)
		for _, two := range grown(n) {
			for _, three := range grown(two) {
				count++
				checkReckoned(t, three)
				checkFollows(t, three)
			}
		}
	}
	if count != 15*27*27 {
		t.Errorf("%d formulas", count)
	}
	first := map[int]bool{2: true, 3: true, 4: true, 6: true, 8: true, 9: true, 10: true}
	ofFirst := func(l []api.Node) []api.Node {
		return slices.DeleteFunc(l, func(n api.Node) bool { return !first[n.Op] })
	}
	for op := range first {
		n, _, _ := ofOp(op)
		for _, two := range ofFirst(grown(n)) {
			for _, three := range ofFirst(grown(two)) {
				for _, four := range ofFirst(grown(three)) {
					checkReckoned(t, four)
					checkFollows(t, four)
				}
			}
		}
	}
}

// parted are all texts of a formula of operations and numbers, with parentheses around its parts, or not.
func parted(n api.Node) []string {
	if n.Kind == 1 {
		return []string{fmt.Sprint(n.X)}
	}
	var sides [][]string
	for _, a := range n.Args {
		l := parted(a)
		for _, s := range slices.Clone(l) {
			if a.Kind != 1 {
				l = append(l, "("+s+")")
			}
		}
		sides = append(sides, l)
	}
	var l []string
	for _, s := range sides[0] {
		switch {
		case n.Op == 3:
			l = append(l, s+"%")
		case n.Kind == 7:
			l = append(l, sign(n.Op)+s)
		default:
			for _, r := range sides[1] {
				l = append(l, s+sign(n.Op)+r)
			}
		}
	}
	return l
}

// P13.3: of all texts with parentheses around parts that are read as a formula none has fewer of them.
func TestFewest(t *testing.T) {
	r := rand.New(rand.NewSource(133))
	for range 3000 {
		n := randomOps(r, 1+r.Intn(5))
		s, err := write.Text(n)
		if err != api.OK {
			t.Errorf("P13.1: %s: %d", told(n), err)
		}
		among := false
		for _, other := range parted(n) {
			among = among || other == s
			if strings.Count(other, "(") < strings.Count(s, "(") && isRead(other, n) {
				t.Errorf("P13.3: %s for %s", s, other)
			}
		}
		if !among {
			t.Errorf("P13.1: %s is not made of its parts", s)
		}
	}
}

// randomOps is a formula of so many operations.
func randomOps(r *rand.Rand, ops int) api.Node {
	if ops == 0 {
		return num(float64(r.Intn(9)))
	}
	op := []int{1, 2, 3, 4, 5, 6, 7, 8, 8, 8, 9, 10, 13, 15}[r.Intn(14)]
	if op <= 3 {
		return un(op, randomOps(r, ops-1))
	}
	left := r.Intn(ops)
	return bin(op, randomOps(r, left), randomOps(r, ops-1-left))
}

// randomFormula is a formula that may be, of at most so many levels.
func randomFormula(r *rand.Rand, deep int) api.Node {
	kind := 1 + r.Intn(12)
	if deep <= 1 {
		kind = 1 + r.Intn(5)
	}
	switch {
	case kind == 1:
		return num([]float64{0, 1, 2.5, 1e21, 1e-9, 0x1p-1074, math.MaxFloat64, math.Float64frombits(uint64(r.Int63n(0x7ff << 52)))}[r.Intn(8)])
	case kind == 2:
		return txt([]string{"", "a", `"`, `)("`, "é", "1,2", " "}[r.Intn(7)])
	case kind == 3:
		return truth(r.Intn(2) == 0)
	case kind == 4:
		return fault(1 + r.Intn(5))
	case kind == 5:
		return named(randomRef(r))
	case kind <= 7:
		return un(1+r.Intn(3), randomFormula(r, deep-1))
	case kind <= 10:
		return bin(4+r.Intn(12), randomFormula(r, deep-1), randomFormula(r, deep-1))
	}
	names := strings.Fields("NA ABS IF SUM MAX CHOOSE MID MOD")
	name := names[r.Intn(len(names))]
	least, most, _ := formula.Known(name)
	n := call(name)
	for range min(least+r.Intn(3), most) {
		if r.Intn(3) == 0 {
			n.Args = append(n.Args, randomArea(r))
		} else {
			n.Args = append(n.Args, randomFormula(r, deep-1))
		}
	}
	return n
}

func randomRef(r *rand.Rand) api.Ref {
	cols, rows := []int{1, 2, 3, 26, 27, 255, 256}, []int{1, 2, 3, 9, 4095, 4096}
	return fixed(cols[r.Intn(len(cols))], rows[r.Intn(len(rows))], r.Intn(2) == 0, r.Intn(2) == 0)
}

// randomArea is an area that may be, with any marks.
func randomArea(r *rand.Rand) api.Node {
	a, b := randomRef(r), randomRef(r)
	a.Addr.Col, b.Addr.Col = min(a.Addr.Col, b.Addr.Col), max(a.Addr.Col, b.Addr.Col)
	a.Addr.Row, b.Addr.Row = min(a.Addr.Row, b.Addr.Row), max(a.Addr.Row, b.Addr.Row)
	return area(a, b)
}

// P13.1, P13.3: many formulas that came by chance.
func TestTextAtRandom(t *testing.T) {
	r := rand.New(rand.NewSource(131))
	found := 0
	for range 8000 {
		n := randomFormula(r, 1+r.Intn(8))
		if formula.Check(n) != api.OK {
			continue
		}
		checkReckoned(t, n)
		if len(reckoned(n, " ")) <= 4096 {
			found++
			checkFollows(t, n)
		}
	}
	if found < 6000 {
		t.Errorf("just %d formulas", found)
	}
}

// joinOf is JOIN of texts of so many bytes.
func joinOf(lengths ...int) api.Node {
	n := call("JOIN")
	for _, k := range lengths {
		n.Args = append(n.Args, txt(strings.Repeat("a", k)))
	}
	return n
}

// checkLengths holds the lengths of Text and Spaced against two; one above 4096 is too long.
func checkLengths(t *testing.T, n api.Node, text, spaced int) {
	t.Helper()
	for i, f := range []func(api.Node) (string, api.Errno){write.Text, write.Spaced} {
		want := []int{text, spaced}[i]
		s, err := f(n)
		if want > 4096 && (s != "" || err != api.ErrLong) || want <= 4096 && (len(s) != want || err != api.OK) {
			t.Errorf("P13.1: %d bytes, %d; not %d", len(s), err, want)
		}
		if err == api.OK && !isRead(s, n) {
			t.Errorf("P13.3: a text of %d bytes is not read as it", len(s))
		}
	}
	checkReckoned(t, n)
}

// P13.1: texts of 4096 bytes and of 4097, with blanks and without.
func TestLengths(t *testing.T) {
	// `JOIN()`, two quotes for each text, a comma between two, and a blank behind it.
	checkLengths(t, joinOf(1020, 1020, 1020, 1019), 4096, 4099)
	checkLengths(t, joinOf(1020, 1020, 1020, 1020), 4097, 4100)
	checkLengths(t, joinOf(1019, 1019, 1019, 1019), 4093, 4096)
	checkLengths(t, joinOf(1019, 1019, 1019, 1020), 4094, 4097)
	checkLengths(t, joinOf(1024, 1024, 1024, 1024), 4113, 4116)
	// Signs of two sides: two blanks each.
	joined := func(l ...int) api.Node {
		n := txt(strings.Repeat("b", l[0]))
		for _, k := range l[1:] {
			n = bin(9, n, txt(strings.Repeat("b", k)))
		}
		return n
	}
	checkLengths(t, joined(1021, 1021, 1021, 1022), 4096, 4102)
	checkLengths(t, joined(1021, 1021, 1022, 1022), 4097, 4103)
	checkLengths(t, joined(1020, 1020, 1020, 1019), 4090, 4096)
	checkLengths(t, joined(1020, 1020, 1020, 1020), 4091, 4097)
	// Bytes count, and those that Quote puts in: `"`, twice each, and letters of two bytes.
	quotes := func(k int, more ...api.Node) api.Node {
		return call("JOIN", append([]api.Node{txt(strings.Repeat(`"`, 1024)), txt(strings.Repeat(`"`, k))}, more...)...)
	}
	checkLengths(t, quotes(1018), 4095, 4096)
	checkLengths(t, quotes(1019), 4097, 4098)
	checkLengths(t, quotes(1017, num(1)), 4095, 4097)
	checkLengths(t, quotes(1017, num(12)), 4096, 4098)
	checkLengths(t, quotes(1017, num(123)), 4097, 4099)
	wide := func(k int) api.Node {
		e := txt(strings.Repeat("é", 510))
		return call("JOIN", e, e, e, txt(strings.Repeat("a", k)))
	}
	checkLengths(t, wide(1019), 4096, 4099)
	checkLengths(t, wide(1020), 4097, 4100)
	// Parentheses count.
	for k := 1004; k <= 1012; k++ {
		n := un(3, un(2, bin(4, txt(strings.Repeat("a", 1024)), bin(4, txt(strings.Repeat("a", 1024)), bin(5, txt(strings.Repeat("a", 1024)), txt(strings.Repeat("a", k)))))))
		checkLengths(t, n, k+3093, k+3099)
	}
	// Far too long: the most that may be.
	most := call("JOIN", slices.Repeat([]api.Node{txt(strings.Repeat(`"`, 1024))}, 255)...)
	checkLengths(t, most, 255*2051+5, 255*2052+4)
}

// P13.1: formulas of as many nodes, and as deep, as may be.
func TestManyDeep(t *testing.T) {
	ones := slices.Repeat([]api.Node{num(1)}, 256)
	list := strings.Repeat("1,", 254) + "1"
	checkWritten(t, call("SUM", ones[:255]...), "SUM("+list+")", "SUM("+strings.ReplaceAll(list, ",", ", ")+")")
	checkRefused(t, call("SUM", ones[:256]...), api.ErrMany)
	checkWritten(t, chain(num(1), 31), strings.Repeat("-", 31)+"1", strings.Repeat("-", 31)+"1")
	checkRefused(t, chain(num(1), 32), api.ErrDeep)
	for op := 4; op <= 15; op++ {
		left, right := num(1), num(1)
		for range 31 {
			left, right = bin(op, left, num(2)), bin(op, num(2), right)
		}
		s := sign(op)
		checkWritten(t, left, "1"+strings.Repeat(s+"2", 31), "1"+strings.Repeat(" "+s+" 2", 31))
		checkWritten(t, right, strings.Repeat("2"+s+"(", 30)+"2"+s+"1"+strings.Repeat(")", 30), strings.Repeat("2 "+s+" (", 30)+"2 "+s+" 1"+strings.Repeat(")", 30))
		checkFollows(t, left)
		checkFollows(t, right)
		checkRefused(t, bin(op, left, num(1)), api.ErrDeep)
		checkRefused(t, bin(op, num(1), right), api.ErrDeep)
	}
	calls, shares := num(1), num(1)
	for range 31 {
		calls, shares = call("ABS", calls), un(3, shares)
	}
	checkWritten(t, calls, strings.Repeat("ABS(", 31)+"1"+strings.Repeat(")", 31), strings.Repeat("ABS(", 31)+"1"+strings.Repeat(")", 31))
	checkWritten(t, shares, "1"+strings.Repeat("%", 31), "1"+strings.Repeat("%", 31))
	// Signs behind a `^`, as many as may be, with a power below them and without.
	checkWritten(t, bin(8, num(2), chain(num(1), 30)), "2^"+strings.Repeat("-", 30)+"1", "2 ^ "+strings.Repeat("-", 30)+"1")
	checkWritten(t, bin(8, num(2), chain(bin(8, num(1), num(1)), 29)), "2^("+strings.Repeat("-", 29)+"1^1)", "2 ^ ("+strings.Repeat("-", 29)+"1 ^ 1)")
	// A full tree of 255 nodes.
	full := num(1)
	for i := range 7 {
		full = bin(4+i, full, full)
	}
	checkReckoned(t, full)
	checkFollows(t, full)
	checkRefused(t, bin(4, full, full), api.ErrMany)
}

// checkRefused checks that all three calls answer that error, and nothing beside it.
func checkRefused(t *testing.T, n api.Node, want api.Errno) {
	t.Helper()
	if err := formula.Check(n); err != want {
		t.Fatalf("Check(%s): %d, not %d", short(told(n)), err, want)
	}
	n = roomy(n)
	was := snapshot(n)
	for name, f := range map[string]func(api.Node) (string, api.Errno){"Text": write.Text, "Spaced": write.Spaced} {
		if s, err := f(n); s != "" || err != want {
			t.Errorf("P13.1: %s(%s): %q, %d; not %d", name, short(was), short(s), err, want)
		}
	}
	for _, by := range []int{0, 1, -1, math.MinInt, math.MaxInt} {
		if m, err := write.Shift(n, by, -by); told(m) != told(api.Node{}) || err != want {
			t.Errorf("P13.2: Shift(%s, %d): %s, %d; not %d", short(was), by, short(told(m)), err, want)
		}
	}
	if snapshot(n) != was {
		t.Errorf("R3: what was refused has been changed: %s", short(was))
	}
}

// P13.1, P13.2: each error of Check, by itself, within others, and ahead of ErrLong.
func TestRefused(t *testing.T) {
	negative, more := math.Copysign(0, -1), num(1)
	more.S = "x"
	bad := []struct {
		n   api.Node
		err api.Errno
	}{
		{api.Node{}, api.ErrArg}, {api.Node{Kind: 10}, api.ErrArg}, {api.Node{Kind: -1}, api.ErrArg}, {api.Node{Kind: math.MaxInt}, api.ErrArg},
		{num(-1), api.ErrArg}, {num(negative), api.ErrArg}, {num(math.NaN()), api.ErrArg}, {num(math.Inf(1)), api.ErrArg}, {more, api.ErrArg},
		{txt("\xff"), api.ErrArg}, {txt(strings.Repeat("a", 1025)), api.ErrArg}, {fault(0), api.ErrArg}, {fault(6), api.ErrArg}, {fault(-1), api.ErrArg},
		{api.Node{Kind: 7, Op: 2}, api.ErrArg}, {api.Node{Kind: 8, Op: 4, Args: []api.Node{num(1)}}, api.ErrArg}, {un(4, num(1)), api.ErrArg}, {un(0, num(1)), api.ErrArg}, {bin(3, num(1), num(2)), api.ErrArg}, {bin(16, num(1), num(2)), api.ErrArg}, {bin(math.MinInt, num(1), num(2)), api.ErrArg},
		{ref(0, 1), api.ErrAddr}, {ref(257, 1), api.ErrAddr}, {ref(1, 0), api.ErrAddr}, {ref(1, 4097), api.ErrAddr}, {named(fixed(0, 1, true, true)), api.ErrAddr}, {ref(math.MaxInt, math.MinInt), api.ErrAddr},
		{area(at(2, 1), at(1, 1)), api.ErrAddr}, {area(at(1, 2), at(1, 1)), api.ErrAddr}, {area(at(1, 1), at(1, 4097)), api.ErrAddr}, {area(at(0, 0), at(0, 0)), api.ErrAddr},
		{call("FOO"), api.ErrName}, {call("sum", num(1)), api.ErrName}, {call(""), api.ErrName}, {call("TRUE"), api.ErrName},
		{call("SUM"), api.ErrCount}, {call("NA", num(1)), api.ErrCount}, {call("IF", num(1)), api.ErrCount}, {call("IF", num(1), num(1), num(1), num(1)), api.ErrCount},
		{un(2, area(at(1, 1), at(2, 2))), api.ErrSyntax}, {bin(4, num(1), area(at(1, 1), at(2, 2))), api.ErrSyntax},
	}
	for _, row := range bad {
		checkRefused(t, row.n, row.err)
		checkRefused(t, un(3, row.n), row.err)
		checkRefused(t, bin(8, num(1), row.n), row.err)
		checkRefused(t, call("SUM", ref(1, 1), row.n, num(2)), row.err)
		long := joinOf(1024, 1024, 1024, 1024, 1024)
		long.Args = append(long.Args, row.n)
		checkRefused(t, long, row.err)
	}
	checkRefused(t, area(at(1, 1), at(2, 2)), api.ErrSyntax)
	checkRefused(t, call("JOIN", slices.Repeat([]api.Node{txt(strings.Repeat("a", 1024))}, 256)...), api.ErrMany)
	checkRefused(t, bin(9, joinOf(1024, 1024, 1024, 1024, 1024), chain(num(1), 31)), api.ErrDeep)
	// Shift knows no length.
	long := joinOf(1024, 1024, 1024, 1024, 1024)
	if m, err := write.Shift(long, 1, 1); err != api.OK || !formula.Same(m, long) {
		t.Errorf("P13.2: Shift of a long formula: %d", err)
	}
}

// R1: what is far too great is told soon, even where lists hold themselves.
func TestEndless(t *testing.T) {
	twice := num(1)
	for range 100 {
		twice = bin(8, twice, twice)
	}
	own := []api.Node{{Kind: 7, Op: 2}}
	own[0].Args = own
	for _, n := range []api.Node{chain(num(1), 1<<16-1), call("SUM", make([]api.Node, 1<<20)...), twice, own[0], bin(8, num(1), own[0])} {
		s, err := write.Text(n)
		spaced, errSpaced := write.Spaced(n)
		m, errShift := write.Shift(n, 1, 1)
		if s != "" || spaced != "" || told(m) != told(api.Node{}) || err != api.ErrMany || errSpaced != api.ErrMany || errShift != api.ErrMany {
			t.Errorf("R1: of what is too great: %d, %d, %d", err, errSpaced, errShift)
		}
	}
}

// R4: a call doesn't hang on those ahead of it.
func TestAgain(t *testing.T) {
	n := read(t, "-(A1+2)^-(3*4)%&sum(B2:C3,\"x\")")
	first, _ := write.Text(n)
	spaced, _ := write.Spaced(n)
	for range 20 {
		write.Text(call("FOO"))
		write.Text(joinOf(1024, 1024, 1024, 1024))
		if s, err := write.Text(n); s != first || err != api.OK {
			t.Errorf("R4: %s, %d; not %s", s, err, first)
		}
		if s, err := write.Spaced(n); s != spaced || err != api.OK {
			t.Errorf("R4: %s, %d; not %s", s, err, spaced)
		}
	}
}
