package formula_test

import (
	"cmp"
	"fmt"
	"math"
	"math/rand"
	"slices"
	"strings"
	"testing"

	"quadrille/api"
	"quadrille/formula"
)

// The makers of nodes say each field that the document gives a meaning; all else is zero.

func num(x float64) api.Node { return api.Node{Kind: 1, X: x} }

func txt(s string) api.Node { return api.Node{Kind: 2, S: s} }

func truth(b bool) api.Node { return api.Node{Kind: 3, B: b} }

func fault(f int) api.Node { return api.Node{Kind: 4, F: f} }

func at(col, row int) api.Ref { return api.Ref{Addr: api.Addr{Col: col, Row: row}} }

func fixed(col, row int, colFixed, rowFixed bool) api.Ref {
	return api.Ref{Addr: api.Addr{Col: col, Row: row}, ColFixed: colFixed, RowFixed: rowFixed}
}

func ref(col, row int) api.Node { return api.Node{Kind: 5, Ref: at(col, row)} }

func area(from, to api.Ref) api.Node { return api.Node{Kind: 6, Ref: from, To: to} }

func un(op int, a api.Node) api.Node { return api.Node{Kind: 7, Op: op, Args: []api.Node{a}} }

func bin(op int, a, b api.Node) api.Node {
	return api.Node{Kind: 8, Op: op, Args: []api.Node{a, b}}
}

func call(name string, l ...api.Node) api.Node { return api.Node{Kind: 9, S: name, Args: l} }

// told is a node with all its fields that are not zero, numbers by their bits, but that all NaNs are told alike.
func told(n api.Node) string {
	var b strings.Builder
	tell(&b, n)
	return b.String()
}

func tell(b *strings.Builder, n api.Node) {
	fmt.Fprintf(b, "%d", n.Kind)
	if n.Op != 0 {
		fmt.Fprintf(b, " op %d", n.Op)
	}
	if math.IsNaN(n.X) {
		b.WriteString(" NaN")
	} else if math.Float64bits(n.X) != 0 {
		fmt.Fprintf(b, " %x", n.X)
	}
	if n.S != "" {
		fmt.Fprintf(b, " %q", n.S)
	}
	if n.B {
		b.WriteString(" true")
	}
	if n.F != 0 {
		fmt.Fprintf(b, " fault %d", n.F)
	}
	if n.Ref != (api.Ref{}) {
		fmt.Fprintf(b, " ref %v", n.Ref)
	}
	if n.To != (api.Ref{}) {
		fmt.Fprintf(b, " to %v", n.To)
	}
	if len(n.Args) > 0 {
		b.WriteString(" [")
		for i, a := range n.Args {
			if i > 0 {
				b.WriteString(", ")
			}
			tell(b, a)
		}
		b.WriteString("]")
	}
}

// short is a text as a failure tells it.
func short(s string) string {
	if len(s) > 300 {
		s = s[:300] + ".."
	}
	return s
}

// lists are all lists of a node, each as long as its room is.
func lists(n api.Node) [][]api.Node {
	l := [][]api.Node{n.Args[:cap(n.Args)]}
	for _, a := range n.Args {
		l = append(l, lists(a)...)
	}
	return l
}

// rooms are the places of all nodes of a node's lists, their spare room too.
func rooms(n api.Node) []*api.Node {
	var l []*api.Node
	for _, list := range lists(n) {
		for i := range list {
			l = append(l, &list[i])
		}
	}
	return l
}

// checkApart checks that no two lists of an answer share room, and that it shares none with what was handed in.
func checkApart(t *testing.T, what string, answer api.Node, given ...api.Node) {
	t.Helper()
	seen := map[*api.Node]int{}
	for _, g := range given {
		for _, p := range rooms(g) {
			seen[p]++
		}
	}
	for _, p := range rooms(answer) {
		if seen[p] > 0 {
			t.Errorf("R3: %s: memory that is shared", short(what))
			return
		}
		seen[p]++
	}
}

// roomy is a node of the same fields, each list of which has spare room that is written over.
func roomy(n api.Node) api.Node {
	list := make([]api.Node, 0, len(n.Args)+2)
	for _, a := range n.Args {
		list = append(list, roomy(a))
	}
	full := append(list, num(-77), call("SPARE", ref(9, 9)))
	n.Args = full[:len(n.Args)]
	return n
}

// snapshot is what a node and all its spare room hold.
func snapshot(n api.Node) string {
	parts := []string{told(n)}
	for _, l := range lists(n) {
		for _, a := range l {
			parts = append(parts, told(a))
		}
		parts = append(parts, ";")
	}
	return strings.Join(parts, " ")
}

// takes is the table of functions, row by row.
var takes = []struct {
	least, most int
	names       string
}{
	{0, 0, "NA"},
	{1, 1, "ABS INT ISBLANK ISERROR ISNUMBER ISTEXT LEN NOT SIGN SINGLE SQRT TRUNC VALUE"},
	{2, 2, "EXACT IFERROR LARGE LEFT MOD PERCENTILE POWER REPT RIGHT ROUND ROUNDDOWN ROUNDEVEN ROUNDUP SMALL SUMPRODUCT TEXT"},
	{2, 3, "IF RANK"},
	{3, 3, "COUNTIF FUSED MID"},
	{1, 256, "AND AVERAGE COUNT COUNTA JOIN MAX MEDIAN MIN MODE OR STDEV STDEVP SUM SUMSQ VAR VARP"},
	{2, 256, "CHOOSE"},
}

// counts are they by name.
func counts() map[string][2]int {
	m := map[string][2]int{}
	for _, row := range takes {
		for _, name := range strings.Fields(row.names) {
			m[name] = [2]int{row.least, row.most}
		}
	}
	return m
}

var counted = counts()

// Known: each name of the table, and what is near to one.
func TestKnown(t *testing.T) {
	table := counted
	if len(table) != 52 {
		t.Fatalf("the table has %d names", len(table))
	}
	check := func(name string) {
		t.Helper()
		want, there := table[name]
		least, most, ok := formula.Known(name)
		if least != want[0] || most != want[1] || ok != there {
			t.Errorf("Known(%q): %d, %d, %v; not %d, %d, %v", name, least, most, ok, want[0], want[1], there)
		}
	}
	for name := range table {
		check(name)
		check(strings.ToLower(name))
		check(name[:1] + strings.ToLower(name[1:]))
		check(strings.ToLower(name[:1]) + name[1:])
		for i := range len(name) {
			check(name[:i] + name[i+1:])
			check(name[:i])
			check(name[i:])
			check(name[:i] + "X" + name[i+1:])
			check(name[:i] + " " + name[i:])
		}
		for _, s := range []string{"A", "E", "S", " ", "(", "()", "1", ".", "_", "\x00"} {
			check(name + s)
			check(s + name)
		}
		check(name + name)
	}
	for _, name := range []string{"", " ", "TRUE", "FALSE", "true", "A1", "NA()", "N", "SUM,MAX", "ABS INT", "#NONE!", "\xff", strings.Repeat("A", 1<<16), "NOW", "PI", "CONCAT", "LOG10", "SUMIF", "VLOOKUP", "CEILING"} {
		check(name)
	}
	for _, name := range all("ABCDEFGHIJKLMNOPQRSTUVWXYZ", 3) {
		check(name)
	}
}

// all are all texts of at most n of these letters.
func all(letters string, n int) []string {
	l := []string{""}
	from := 0
	for range n {
		to := len(l)
		for _, s := range l[from:to] {
			for _, b := range letters {
				l = append(l, s+string(b))
			}
		}
		from = to
	}
	return l
}

// checkCheck holds Check against an answer; what it is handed stays as it was.
func checkCheck(t *testing.T, n api.Node, want api.Errno) {
	t.Helper()
	n = roomy(n)
	was := snapshot(n)
	if err := formula.Check(n); err != want {
		t.Errorf("P12.1: Check(%s): %d, not %d", short(told(n)), err, want)
	}
	if snapshot(n) != was {
		t.Errorf("R3: Check has changed %s", short(was))
	}
}

// one of each Kind, well made; all but the area may be by themselves.
func eachKind() []api.Node {
	return []api.Node{
		num(2), num(0), txt("a"), txt(""), truth(true), truth(false), fault(3), ref(2, 3), {Kind: 5, Ref: fixed(1, 1, true, true)}, area(at(1, 2), at(2, 2)),
		un(1, num(1)), un(2, num(1)), un(3, ref(1, 1)), bin(4, num(1), num(2)), bin(15, txt(""), ref(1, 1)), call("SUM", num(1)), call("NA"),
	}
}

func TestCheckExamples(t *testing.T) {
	checkCheck(t, num(-1), api.ErrArg)
	checkCheck(t, ref(257, 1), api.ErrAddr)
	checkCheck(t, call("SUM"), api.ErrCount)
	checkCheck(t, area(at(1, 1), at(2, 2)), api.ErrSyntax)
}

// P12.1: what is well made, and each field more that a Kind hasn't.
func TestFieldsTooMany(t *testing.T) {
	has := map[int]string{1: "X", 2: "S", 3: "B", 4: "F", 5: "Ref", 6: "Ref To", 7: "Op Args", 8: "Op Args", 9: "S Args"}
	more := []struct {
		field string
		lay   func(n *api.Node)
	}{
		{"Op", func(n *api.Node) { n.Op = 1 }},
		{"Op", func(n *api.Node) { n.Op = -1 }},
		{"Op", func(n *api.Node) { n.Op = 4 }},
		{"X", func(n *api.Node) { n.X = 1 }},
		{"X", func(n *api.Node) { n.X = math.Copysign(0, -1) }},
		{"X", func(n *api.Node) { n.X = math.NaN() }},
		{"X", func(n *api.Node) { n.X = 0x1p-1074 }},
		{"X", func(n *api.Node) { n.X = math.Inf(1) }},
		{"S", func(n *api.Node) { n.S = "x" }},
		{"S", func(n *api.Node) { n.S = "\x00" }},
		{"B", func(n *api.Node) { n.B = true }},
		{"F", func(n *api.Node) { n.F = 1 }},
		{"F", func(n *api.Node) { n.F = -1 }},
		{"Ref", func(n *api.Node) { n.Ref.Addr.Col = 1 }},
		{"Ref", func(n *api.Node) { n.Ref.Addr.Row = -1 }},
		{"Ref", func(n *api.Node) { n.Ref.ColFixed = true }},
		{"Ref", func(n *api.Node) { n.Ref.RowFixed = true }},
		{"Ref", func(n *api.Node) { n.Ref = at(1, 1) }},
		{"To", func(n *api.Node) { n.To.Addr.Col = -1 }},
		{"To", func(n *api.Node) { n.To.Addr.Row = 1 }},
		{"To", func(n *api.Node) { n.To.ColFixed = true }},
		{"To", func(n *api.Node) { n.To.RowFixed = true }},
		{"To", func(n *api.Node) { n.To = at(1, 1) }},
		{"Args", func(n *api.Node) { n.Args = []api.Node{num(1)} }},
		{"Args", func(n *api.Node) { n.Args = []api.Node{num(1), num(2)} }},
	}
	for _, n := range eachKind() {
		want := api.OK
		if n.Kind == api.NodeArea {
			want = api.ErrSyntax
		}
		checkCheck(t, n, want)
		checkCheck(t, call("SUM", num(7), n), api.OK)
		for _, m := range more {
			if slices.Contains(strings.Fields(has[n.Kind]), m.field) {
				continue
			}
			bad := n
			m.lay(&bad)
			checkCheck(t, bad, api.ErrArg)
			checkCheck(t, call("SUM", bad), api.ErrArg)
			checkCheck(t, un(2, bin(5, num(1), bad)), api.ErrArg)
		}
		// An empty list is none.
		if len(n.Args) == 0 {
			n.Args = []api.Node{}
			if err := formula.Check(n); err != want {
				t.Errorf("P12.1: Check(%s) with an empty list: %d", told(n), err)
			}
		}
	}
}

// P12.1: the fields that a Kind has.
func TestNumbersTextsFaults(t *testing.T) {
	for _, x := range []float64{0, 1, 0.5, 0x1p-1074, 0x1p-1022, math.MaxFloat64, 1e16} {
		checkCheck(t, num(x), api.OK)
		checkCheck(t, num(-x), map[bool]api.Errno{true: api.OK, false: api.ErrArg}[math.Float64bits(-x)>>63 == 0])
	}
	for _, bits := range []uint64{1 << 63, 1<<63 | 1, 0x7ff << 52, 0xfff << 52, 0x7ff8 << 48, 0xfff8 << 48, 0x7ff<<52 | 1, 0xfff<<52 | 1, 0x7fefffffffffffff | 1<<63, math.MaxUint64} {
		checkCheck(t, num(math.Float64frombits(bits)), api.ErrArg)
	}
	for s, ok := range map[string]bool{
		"": true, "a": true, "\x00": true, "\"": true, "é": true, "\ufffd": true, "\U0010ffff": true, "\u0800": true,
		strings.Repeat("a", 1024): true, strings.Repeat("a", 1025): false, strings.Repeat("é", 512): true, strings.Repeat("é", 512) + "a": false, strings.Repeat("é", 513): false, strings.Repeat("a", 1<<20): false,
		"\xff": false, "\x80": false, "a\xc3": false, "\xc0\x80": false, "\xed\xa0\x80": false, "\xf4\x90\x80\x80": false, "\xe2\x82": false, strings.Repeat("a", 1023) + "\xff": false, strings.Repeat("a", 1024) + "\xff": false,
	} {
		checkCheck(t, txt(s), map[bool]api.Errno{true: api.OK, false: api.ErrArg}[ok])
	}
	for f := -3; f <= 9; f++ {
		checkCheck(t, fault(f), map[bool]api.Errno{true: api.OK, false: api.ErrArg}[f >= 1 && f <= 5])
	}
	for _, f := range []int{math.MinInt, math.MaxInt, 1<<32 + 1} {
		checkCheck(t, fault(f), api.ErrArg)
	}
}

// P12.1: Kinds that package api doesn't name.
func TestKinds(t *testing.T) {
	for _, n := range eachKind() {
		for _, kind := range []int{math.MinInt, -9, -5, -1, 0, 10, 11, 1<<32 + 1, 1<<8 + 5, math.MaxInt} {
			bad := n
			bad.Kind = kind
			checkCheck(t, bad, api.ErrArg)
			checkCheck(t, call("SUM", bad), api.ErrArg)
		}
	}
	for _, kind := range []int{-1, 0, 10, 99} {
		checkCheck(t, api.Node{Kind: kind}, api.ErrArg)
		checkCheck(t, api.Node{Kind: kind, Args: []api.Node{num(1)}}, api.ErrArg)
	}
	// A Kind without any field is well made only where zeros are.
	for kind, want := range []api.Errno{1, 0, 0, 0, 1, 20, 20, 1, 1, 21} {
		checkCheck(t, api.Node{Kind: kind}, want)
	}
}

// P12.1: which operations a node of one part has, and one of two; how many Args.
func TestOps(t *testing.T) {
	args := []api.Node{num(1), ref(1, 1), txt(""), truth(true)}
	for op := -3; op <= 20; op++ {
		for n := range 5 {
			one, two := api.ErrArg, api.ErrArg
			if op >= 1 && op <= 3 && n == 1 {
				one = api.OK
			}
			if op >= 4 && op <= 15 && n == 2 {
				two = api.OK
			}
			checkCheck(t, api.Node{Kind: 7, Op: op, Args: args[:n]}, one)
			checkCheck(t, api.Node{Kind: 8, Op: op, Args: args[:n]}, two)
		}
		if err := formula.Check(api.Node{Kind: 7, Op: op}); err != api.ErrArg {
			t.Errorf("P12.1: Check of Op %d without Args: %d", op, err)
		}
	}
	for _, op := range []int{math.MinInt, math.MaxInt, 1<<32 + 1, 1<<32 + 4} {
		checkCheck(t, un(op, num(1)), api.ErrArg)
		checkCheck(t, bin(op, num(1), num(2)), api.ErrArg)
	}
}

// P12.1: refs of no cell, areas that may not be.
func TestCells(t *testing.T) {
	edges := []int{math.MinInt, -1, 0, 1, 2, 255, 256, 257, 4095, 4096, 4097, math.MaxInt}
	cell := func(c, r int) bool { return c >= 1 && c <= 256 && r >= 1 && r <= 4096 }
	for _, c := range edges {
		for _, r := range edges {
			want := api.ErrAddr
			if cell(c, r) {
				want = api.OK
			}
			for _, f := range []api.Ref{at(c, r), fixed(c, r, true, false), fixed(c, r, false, true), fixed(c, r, true, true)} {
				checkCheck(t, api.Node{Kind: 5, Ref: f}, want)
				checkCheck(t, call("ABS", api.Node{Kind: 5, Ref: f}), want)
			}
			for _, d := range edges {
				for _, s := range edges {
					n := area(fixed(c, r, c > 1, r > 1), fixed(d, s, s > 1, d > 1))
					want, alone := api.ErrAddr, api.ErrAddr
					if cell(c, r) && cell(d, s) && c <= d && r <= s {
						want, alone = api.OK, api.ErrSyntax
					}
					for _, err := range []struct {
						n    api.Node
						want api.Errno
					}{{call("ABS", n), want}, {n, alone}, {un(2, n), alone}} {
						if e := formula.Check(err.n); e != err.want {
							t.Errorf("P12.1: Check(%s): %d, not %d", told(err.n), e, err.want)
						}
					}
				}
			}
		}
	}
}

// P12.1: areas stand as a call's Args, nowhere else.
func TestAreasWhere(t *testing.T) {
	a := area(at(1, 1), at(1, 1))
	for name, c := range counted {
		for n := max(c[0], 1); n <= min(c[1], 4); n++ {
			for i := range n {
				args := slices.Repeat([]api.Node{num(1)}, n)
				args[i] = a
				checkCheck(t, call(name, args...), api.OK)
				args[i] = un(2, a)
				checkCheck(t, call(name, args...), api.ErrSyntax)
			}
			checkCheck(t, call(name, slices.Repeat([]api.Node{a}, n)...), api.OK)
		}
	}
	for op := 1; op <= 3; op++ {
		checkCheck(t, un(op, a), api.ErrSyntax)
		checkCheck(t, un(op, call("SUM", a)), api.OK)
	}
	for op := 4; op <= 15; op++ {
		checkCheck(t, bin(op, a, num(1)), api.ErrSyntax)
		checkCheck(t, bin(op, num(1), a), api.ErrSyntax)
		checkCheck(t, bin(op, call("SUM", a), call("MAX", a, a)), api.OK)
		checkCheck(t, call("SUM", bin(op, a, a)), api.ErrSyntax)
		checkCheck(t, call("SUM", a, bin(op, num(1), a)), api.ErrSyntax)
	}
	checkCheck(t, call("SUM", call("SUM", a)), api.OK)
}

// P12.1: calls of each function with fewer and more Args than it takes, and of none.
func TestCalls(t *testing.T) {
	ones := slices.Repeat([]api.Node{num(1)}, 300)
	for name, c := range counted {
		for n := range 6 {
			want := api.ErrCount
			if n >= c[0] && n <= c[1] {
				want = api.OK
			}
			checkCheck(t, call(name, ones[:n]...), want)
			checkCheck(t, call("SUM", call(name, ones[:n]...)), want)
		}
		long := map[bool]api.Errno{true: api.OK, false: api.ErrCount}[c[1] == 256]
		checkCheck(t, call(name, ones[:255]...), long)
		checkCheck(t, call(name, ones[:256]...), api.ErrMany)
		checkCheck(t, call(name, ones[:257]...), api.ErrMany)
		checkCheck(t, call(strings.ToLower(name), ones[:c[0]]...), api.ErrName)
	}
	for _, name := range []string{"", "FOO", "TRUE", "FALSE", "A1", "\xff", "SUM ", " SUM", "SUM(", strings.Repeat("X", 2000), "SUMX", "SU"} {
		for n := range 4 {
			checkCheck(t, call(name, ones[:n]...), api.ErrName)
		}
	}
}

// P12.1: of two errors the one of the first node, of that the one that is named first.
func TestWhichError(t *testing.T) {
	wrong := area(at(2, 2), at(1, 1))
	overfull := call("FOO")
	overfull.X = 1
	over := call("SQRT")
	over.B = true
	bad := wrong
	bad.Op = 1
	refBad := ref(0, 0)
	refBad.To = at(1, 1)
	for _, row := range []struct {
		n    api.Node
		want api.Errno
	}{
		{wrong, api.ErrAddr},
		{bad, api.ErrArg},
		{refBad, api.ErrArg},
		{overfull, api.ErrArg},
		{over, api.ErrArg},
		{call("FOO"), api.ErrName},
		{call("SUM", wrong), api.ErrAddr},
		{call("FOO", wrong), api.ErrName},
		{call("FOO", num(-1)), api.ErrName},
		{call("SQRT", num(-1), num(1)), api.ErrCount},
		{call("SQRT", call("FOO"), num(1)), api.ErrCount},
		{un(4, ref(0, 1)), api.ErrArg},
		{un(2, ref(0, 1)), api.ErrAddr},
		{bin(4, ref(0, 1), num(-1)), api.ErrAddr},
		{bin(4, num(-1), ref(0, 1)), api.ErrArg},
		{bin(4, call("FOO"), call("SQRT")), api.ErrName},
		{bin(4, call("SQRT"), call("FOO")), api.ErrCount},
		{bin(4, area(at(1, 1), at(1, 1)), call("FOO")), api.ErrSyntax},
		{bin(4, call("FOO"), area(at(1, 1), at(1, 1))), api.ErrName},
		{bin(4, num(1), bin(4, area(at(1, 1), at(1, 1)), num(-1))), api.ErrSyntax},
		{bin(4, un(2, un(2, call("FOO"))), num(-1)), api.ErrName},
		{bin(4, call("SUM", num(1), call("SUM", num(2), ref(1, 0))), call("FOO")), api.ErrAddr},
		{call("IF", num(1), call("NA", num(1)), num(-1)), api.ErrCount},
		{call("IF", num(1), call("NA"), num(-1)), api.ErrArg},
		{call("SUM", call("SUM", call("SUM", num(1)), fault(6)), ref(0, 0)), api.ErrArg},
		{api.Node{Kind: 1, Args: []api.Node{area(at(1, 1), at(1, 1))}}, api.ErrArg},
		{api.Node{Kind: 6, Ref: at(0, 0), Args: []api.Node{num(1)}}, api.ErrArg},
	} {
		checkCheck(t, row.n, row.want)
	}
}

// chain is a node under so many more.
func chain(n api.Node, above int) api.Node {
	for range above {
		n = un(2, n)
	}
	return n
}

// P12.1: how many nodes may be, and how deep they may stand.
func TestManyDeep(t *testing.T) {
	ones := slices.Repeat([]api.Node{num(1)}, 400)
	checkCheck(t, call("SUM", ones[:255]...), api.OK)
	checkCheck(t, call("SUM", ones[:256]...), api.ErrMany)
	checkCheck(t, call("SUM", append(slices.Clone(ones[:253]), un(2, num(1)))...), api.OK)
	checkCheck(t, call("SUM", append(slices.Clone(ones[:254]), un(2, num(1)))...), api.ErrMany)
	checkCheck(t, bin(4, call("SUM", ones[:127]...), call("SUM", ones[:126]...)), api.OK)
	checkCheck(t, bin(4, call("SUM", ones[:127]...), call("SUM", ones[:127]...)), api.ErrMany)
	checkCheck(t, chain(num(1), 31), api.OK)
	checkCheck(t, chain(num(1), 32), api.ErrDeep)
	checkCheck(t, chain(num(1), 255), api.ErrDeep)
	checkCheck(t, chain(num(1), 256), api.ErrMany)
	// The deepest part may stand anywhere.
	for i := range 3 {
		args := slices.Clone(ones[:3])
		args[i] = chain(num(1), 30)
		checkCheck(t, call("IF", args...), api.OK)
		args[i] = chain(num(1), 31)
		checkCheck(t, call("IF", args...), api.ErrDeep)
	}
	checkCheck(t, call("SUM", chain(num(1), 30), chain(num(1), 30), chain(num(1), 30)), api.OK)
	// Both at once, just at the limits and one beyond.
	wide := func(n, deep int) api.Node {
		return call("SUM", append(slices.Clone(ones[:n-deep]), chain(num(1), deep-2))...)
	}
	checkCheck(t, wide(256, 32), api.OK)
	checkCheck(t, wide(257, 32), api.ErrMany)
	checkCheck(t, wide(256, 33), api.ErrDeep)
	checkCheck(t, wide(257, 33), api.ErrMany)
	// Whatever else is wrong comes behind; what is not well made counts with all its nodes.
	for _, bad := range []api.Node{num(-1), call("FOO"), call("SQRT"), ref(0, 0), {Kind: 6, Ref: at(1, 1), To: at(1, 1)}, {}} {
		checkCheck(t, chain(bad, 32), api.ErrDeep)
		checkCheck(t, chain(bad, 256), api.ErrMany)
		checkCheck(t, call("SUM", append([]api.Node{bad}, ones[:255]...)...), api.ErrMany)
		bad.Args = ones[:256]
		checkCheck(t, bad, api.ErrMany)
		bad.Args = []api.Node{chain(num(1), 31)}
		checkCheck(t, bad, api.ErrDeep)
	}
	checkCheck(t, api.Node{Kind: 1, Args: ones[:255]}, api.ErrArg)
	checkCheck(t, api.Node{Kind: 1, Args: []api.Node{chain(num(1), 30)}}, api.ErrArg)
}

// P12.1, R1: what is far too great is told soon, even where lists hold themselves.
func TestEndless(t *testing.T) {
	if err := formula.Check(chain(num(1), 1<<16-1)); err != api.ErrMany {
		t.Errorf("P12.1: Check of a deep chain: %d", err)
	}
	if err := formula.Check(call("SUM", make([]api.Node, 1<<20)...)); err != api.ErrMany {
		t.Errorf("P12.1: Check of very many Args: %d", err)
	}
	twice := num(1)
	for range 100 {
		twice = bin(4, twice, twice)
	}
	if err := formula.Check(twice); err != api.ErrMany {
		t.Errorf("P12.1: Check of 2^101 - 1 nodes: %d", err)
	}
	own := []api.Node{{Kind: 7, Op: 2}}
	own[0].Args = own
	if err := formula.Check(own[0]); err != api.ErrMany {
		t.Errorf("P12.1: Check of a list that holds itself: %d", err)
	}
}

// randomNode is a node, mostly well made, of at most so many levels.
func randomNode(r *rand.Rand, deep int) api.Node {
	names := []string{"NA", "SUM", "SQRT", "IF", "MID", "MAX", "FOO", "sum", ""}
	n := api.Node{}
	kind := 1 + r.Intn(9)
	if deep <= 1 {
		kind = 1 + r.Intn(6)
	}
	switch kind {
	case 1:
		n = num(float64(r.Intn(4)))
	case 2:
		n = txt([]string{"", "a", "é", "b"}[r.Intn(4)])
	case 3:
		n = truth(r.Intn(2) == 0)
	case 4:
		n = fault(1 + r.Intn(5))
	case 5:
		n = api.Node{Kind: 5, Ref: randomRef(r)}
	case 6:
		n = area(randomRef(r), randomRef(r))
	case 7:
		n = un(1+r.Intn(3), randomNode(r, deep-1))
	case 8:
		n = bin(4+r.Intn(12), randomNode(r, deep-1), randomNode(r, deep-1))
	case 9:
		n = call(names[r.Intn(len(names))])
		for range r.Intn(4) {
			n.Args = append(n.Args, randomNode(r, deep-1))
		}
	}
	if r.Intn(12) == 0 {
		spoil(r, &n)
	}
	return n
}

func randomRef(r *rand.Rand) api.Ref {
	cols := []int{1, 2, 3, 1, 2, 3, 1, 2, 3, 256, 257, 0}
	return fixed(cols[r.Intn(len(cols))], cols[r.Intn(len(cols))], r.Intn(2) == 0, r.Intn(2) == 0)
}

// spoil lays something into a node that may not belong there.
func spoil(r *rand.Rand, n *api.Node) {
	xs := []float64{0, math.Copysign(0, -1), 1, -1, math.Inf(1), math.NaN(), math.Float64frombits(0x7ff<<52 | 5)}
	switch r.Intn(9) {
	case 0:
		n.Kind = r.Intn(12) - 1
	case 1:
		n.Op = r.Intn(18) - 1
	case 2:
		n.X = xs[r.Intn(len(xs))]
	case 3:
		n.S = []string{"", "x", "\xff", "SUM", strings.Repeat("y", 1025)}[r.Intn(5)]
	case 4:
		n.B = !n.B
	case 5:
		n.F = r.Intn(9) - 1
	case 6:
		n.Ref = randomRef(r)
	case 7:
		n.To = randomRef(r)
	case 8:
		n.Args = append(slices.Clone(n.Args), num(1))
	}
}

// flat are a node's nodes in order, without their Args, found by a list of what is left to do.
func flat(n api.Node) []api.Node {
	var l []api.Node
	left := []api.Node{n}
	for len(left) > 0 {
		m := left[len(left)-1]
		left = left[:len(left)-1]
		for _, a := range slices.Backward(m.Args) {
			left = append(left, a)
		}
		m.Args = nil
		l = append(l, m)
	}
	return l
}

// levels is a node's depth, counted level by level.
func levels(n api.Node) int {
	deep := 0
	for l := []api.Node{n}; len(l) > 0; deep++ {
		var below []api.Node
		for _, m := range l {
			below = append(below, m.Args...)
		}
		l = below
	}
	return deep
}

// reckoned is what Check must answer, by P12.1's words.
func reckoned(n api.Node) api.Errno {
	if len(flat(n)) > 256 {
		return api.ErrMany
	}
	if levels(n) > 32 {
		return api.ErrDeep
	}
	return ruled(n, 0)
}

// ruled goes through the rules for each node in order; above is the Kind of the node whose Arg it is.
func ruled(n api.Node, above int) api.Errno {
	rules := []struct {
		err    api.Errno
		broken bool
	}{
		{api.ErrArg, !madeWell(n)},
		{api.ErrAddr, n.Kind == 5 && !isCell(n.Ref)},
		{api.ErrAddr, n.Kind == 6 && (!isCell(n.Ref) || !isCell(n.To) || n.Ref.Addr.Col > n.To.Addr.Col || n.Ref.Addr.Row > n.To.Addr.Row)},
		{api.ErrName, n.Kind == 9 && !isFunction(n.S)},
		{api.ErrCount, n.Kind == 9 && (len(n.Args) < counted[n.S][0] || len(n.Args) > counted[n.S][1])},
		{api.ErrSyntax, n.Kind == 6 && above != 9},
	}
	for _, rule := range rules {
		if rule.broken {
			return rule.err
		}
	}
	for _, a := range n.Args {
		if err := ruled(a, n.Kind); err != api.OK {
			return err
		}
	}
	return api.OK
}

func isCell(r api.Ref) bool {
	return r.Addr.Col >= 1 && r.Addr.Col <= 256 && r.Addr.Row >= 1 && r.Addr.Row <= 4096
}

func isFunction(name string) bool {
	_, ok := counted[name]
	return ok
}

// madeWell takes away what a Kind has; nothing must be left.
func madeWell(n api.Node) bool {
	kind, args := n.Kind, len(n.Args)
	n.Kind, n.Args = 0, nil
	wanted := 0
	switch kind {
	case 1:
		if !(n.X >= 0) || math.Signbit(n.X) || n.X > math.MaxFloat64 {
			return false
		}
		n.X = 0
	case 2:
		if len(n.S) > 1024 || strings.ToValidUTF8(n.S, "") != n.S {
			return false
		}
		n.S = ""
	case 3:
		n.B = false
	case 4:
		if n.F < 1 || n.F > 5 {
			return false
		}
		n.F = 0
	case 5:
		n.Ref = api.Ref{}
	case 6:
		n.Ref, n.To = api.Ref{}, api.Ref{}
	case 7:
		if n.Op < 1 || n.Op > 3 {
			return false
		}
		n.Op, wanted = 0, 1
	case 8:
		if n.Op < 4 || n.Op > 15 {
			return false
		}
		n.Op, wanted = 0, 2
	case 9:
		n.S, wanted = "", args
	default:
		return false
	}
	return args == wanted && told(n) == "0"
}

// P12.1: many nodes that came by chance.
func TestCheckAtRandom(t *testing.T) {
	r := rand.New(rand.NewSource(121))
	met := map[api.Errno]int{}
	for range 30000 {
		n := randomNode(r, 1+r.Intn(5))
		want := reckoned(n)
		met[want]++
		checkCheck(t, n, want)
	}
	for _, err := range []api.Errno{api.OK, api.ErrArg, api.ErrAddr, api.ErrName, api.ErrCount, api.ErrSyntax} {
		if met[err] < 100 {
			t.Errorf("%d came just %d times", err, met[err])
		}
	}
}

func areaOf(c, r, d, s int) api.Area {
	return api.Area{From: api.Addr{Col: c, Row: r}, To: api.Addr{Col: d, Row: s}}
}

// checkUses holds Uses against a list; what it is handed stays as it was.
func checkUses(t *testing.T, n api.Node, want ...api.Area) {
	t.Helper()
	n = roomy(n)
	was := snapshot(n)
	if l := formula.Uses(n); !slices.Equal(l, want) {
		t.Errorf("P12.3: Uses(%s): %v, not %v", short(told(n)), l, want)
	}
	if snapshot(n) != was {
		t.Errorf("R3: Uses has changed %s", short(was))
	}
}

// P12.3: what a formula uses.
func TestUses(t *testing.T) {
	a1 := areaOf(1, 1, 1, 1)
	checkUses(t, bin(4, ref(2, 1), call("SUM", area(at(1, 1), at(1, 2)), ref(2, 1), api.Node{Kind: 5, Ref: fixed(1, 1, true, true)})), a1, areaOf(1, 1, 1, 2), areaOf(2, 1, 2, 1))
	for _, n := range []api.Node{num(1), txt("A1"), truth(true), fault(4), call("NA"), {}} {
		checkUses(t, n)
	}
	checkUses(t, ref(1, 1), a1)
	checkUses(t, ref(256, 4096), areaOf(256, 4096, 256, 4096))
	checkUses(t, area(at(1, 1), at(256, 4096)), areaOf(1, 1, 256, 4096))
	// A cell's area by a ref and by an area, fixed or not, is one.
	checkUses(t, call("SUM", ref(1, 1), area(at(1, 1), at(1, 1)), area(fixed(1, 1, true, false), fixed(1, 1, false, true)), api.Node{Kind: 5, Ref: fixed(1, 1, false, true)}, api.Node{Kind: 5, Ref: fixed(1, 1, true, false)}), a1)
	checkUses(t, call("SUM", area(at(1, 1), at(2, 2)), num(3), area(fixed(1, 1, true, true), fixed(2, 2, true, true)), area(at(1, 1), at(2, 2))), areaOf(1, 1, 2, 2))
	// By row, then by column, of the first cell, then of the last one.
	checkUses(t, call("SUM", ref(1, 2), ref(2, 1), ref(3, 1), ref(1, 3), ref(256, 1)), areaOf(2, 1, 2, 1), areaOf(3, 1, 3, 1), areaOf(256, 1, 256, 1), areaOf(1, 2, 1, 2), areaOf(1, 3, 1, 3))
	checkUses(t, call("SUM", area(at(1, 1), at(1, 3)), area(at(1, 1), at(3, 1)), area(at(1, 1), at(2, 2)), area(at(1, 1), at(2, 1)), area(at(1, 1), at(1, 2))),
		areaOf(1, 1, 2, 1), areaOf(1, 1, 3, 1), areaOf(1, 1, 1, 2), areaOf(1, 1, 2, 2), areaOf(1, 1, 1, 3))
	checkUses(t, call("SUM", area(at(2, 1), at(2, 1)), area(at(1, 1), at(9, 9)), area(at(1, 2), at(1, 2))), areaOf(1, 1, 9, 9), areaOf(2, 1, 2, 1), areaOf(1, 2, 1, 2))
	// One that may not be is left out, wherever it stands; areas that lie in others stay.
	checkUses(t, call("SUM", ref(0, 1), ref(1, 0), ref(257, 1), ref(1, 4097), ref(-1, -1), ref(2, 2), ref(math.MaxInt, math.MinInt)), areaOf(2, 2, 2, 2))
	checkUses(t, call("SUM", area(at(2, 1), at(1, 1)), area(at(1, 2), at(1, 1)), area(at(0, 1), at(1, 1)), area(at(1, 1), at(257, 1)), area(at(1, 1), at(1, 4097)), area(at(0, 0), at(0, 0))))
	checkUses(t, call("SUM", area(at(1, 1), at(3, 3)), ref(2, 2), area(at(2, 2), at(3, 3))), areaOf(1, 1, 3, 3), areaOf(2, 2, 2, 2), areaOf(2, 2, 3, 3))
}

// P12.3: of nodes that may not be.
func TestUsesOfAny(t *testing.T) {
	a1 := areaOf(1, 1, 1, 1)
	b2 := areaOf(2, 2, 2, 2)
	checkUses(t, area(at(1, 1), at(2, 2)), areaOf(1, 1, 2, 2))
	checkUses(t, un(99, bin(-1, area(at(1, 1), at(1, 1)), call("FOO", ref(2, 2)))), a1, b2)
	for kind := -1; kind <= 10; kind++ {
		n := api.Node{Kind: kind, Op: 3, X: math.NaN(), S: "\xff", F: 9, Ref: at(1, 1), To: at(3, 3), Args: []api.Node{ref(2, 2)}}
		switch kind {
		case 5:
			checkUses(t, n, a1, b2)
		case 6:
			checkUses(t, n, areaOf(1, 1, 3, 3), b2)
		default:
			checkUses(t, n, b2)
		}
	}
	// To counts for nothing at a ref, Args count at an area that may not be.
	checkUses(t, api.Node{Kind: 5, Ref: at(1, 1), To: at(0, -5)}, a1)
	checkUses(t, api.Node{Kind: 6, Ref: at(5, 5), To: at(1, 1), Args: []api.Node{ref(1, 1), {Kind: 1, Args: []api.Node{ref(2, 2)}}}}, a1, b2)
	if l := formula.Uses(chain(ref(1, 1), 1<<16-1)); !slices.Equal(l, []api.Area{a1}) {
		t.Errorf("P12.3: Uses of a deep chain: %v", l)
	}
	many := make([]api.Node, 1<<17)
	for i := range many {
		many[i] = ref(1+(i*7)%256, 1+(i/256*5)%512)
	}
	l := formula.Uses(call("SUM", many...))
	if len(l) != 1<<17 || l[0] != a1 || l[1<<17-1] != areaOf(256, 512, 256, 512) || l[256] != areaOf(1, 2, 1, 2) {
		t.Errorf("P12.3: Uses of very many: %d", len(l))
	}
}

// P12.3, P12.5: many that came by chance; Uses has each cell alone that Nodes tells.
func TestUsesAtRandom(t *testing.T) {
	r := rand.New(rand.NewSource(123))
	for range 20000 {
		n := randomNode(r, 1+r.Intn(6))
		set := map[api.Area]int{}
		for _, m := range flat(n) {
			switch {
			case m.Kind == 5 && isCell(m.Ref):
				set[api.Area{From: m.Ref.Addr, To: m.Ref.Addr}]++
			case m.Kind == 6 && isCell(m.Ref) && isCell(m.To) && m.Ref.Addr.Col <= m.To.Addr.Col && m.Ref.Addr.Row <= m.To.Addr.Row:
				set[api.Area{From: m.Ref.Addr, To: m.To.Addr}]++
			}
		}
		var want []api.Area
		for a := range set {
			want = append(want, a)
		}
		slices.SortFunc(want, func(a, b api.Area) int {
			return cmp.Or(a.From.Row-b.From.Row, a.From.Col-b.From.Col, a.To.Row-b.To.Row, a.To.Col-b.To.Col)
		})
		checkUses(t, n, want...)
		l := formula.Uses(n)
		for m := range formula.Nodes(n) {
			if m.Kind == 5 && isCell(m.Ref) && !slices.Contains(l, api.Area{From: m.Ref.Addr, To: m.Ref.Addr}) {
				t.Errorf("P12.5: Uses(%s) hasn't %v", told(n), m.Ref)
			}
		}
	}
}
