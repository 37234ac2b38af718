package packed_test

import (
	"encoding/binary"
	"encoding/hex"
	"fmt"
	"hash/crc32"
	"math"
	"strings"
	"testing"

	"quadrille/addr"
	"quadrille/api"
	"quadrille/formula"
	"quadrille/grid"
	"quadrille/packed"
)

var minus = math.Copysign(0, -1)

const theNaN, theSingleNaN = 0x7FF8000000000000, 0x7FC00000

func xy(col, row int) api.Addr { return api.Addr{Col: col, Row: row} }

func cell(text string) api.Addr {
	r, err := addr.Parse(text)
	if err != api.OK {
		panic("no cell: " + text)
	}
	return r.Addr
}

func tree(text string) api.Node {
	n, bad := formula.Parse(text)
	if bad != (api.Mishap{}) {
		panic("no formula: " + text)
	}
	return n
}

func num(x float64) api.Content {
	return api.Content{Kind: api.Plain, V: api.Value{Kind: api.Number, X: x}}
}

func text(s string) api.Content {
	return api.Content{Kind: api.Plain, V: api.Value{Kind: api.Text, S: s}}
}

func truth(b bool) api.Content {
	return api.Content{Kind: api.Plain, V: api.Value{Kind: api.Truth, B: b}}
}

func fault(f int) api.Content {
	return api.Content{Kind: api.Plain, V: api.Value{Kind: api.Fault, F: f}}
}

func form(text string) api.Content { return made(tree(text)) }

// made is the content of a formula that is made by hand.
func made(n api.Node) api.Content { return api.Content{Kind: api.Formula, F: n} }

// signed are so many signs, one above the other, above a node.
func signed(n api.Node, count int) api.Node {
	for range count {
		n = api.Node{Kind: api.NodeUnary, Op: api.OpMinus, Args: []api.Node{n}}
	}
	return n
}

// sumOf is a call with so many parts, each of them that.
func sumOf(n api.Node, count int) api.Node {
	s := api.Node{Kind: api.NodeCall, S: "SUM"}
	for range count {
		s.Args = append(s.Args, n)
	}
	return s
}

func put(g *grid.Grid, at api.Addr, c api.Content) {
	if err := g.Put(at, c); err != api.OK {
		panic(fmt.Sprintf("Put(%v): %d", at, err))
	}
}

// gridOf is a grid of cells' texts and contents, one behind the other.
func gridOf(l ...any) *grid.Grid {
	g := grid.New()
	for i := 0; i < len(l); i += 2 {
		put(g, cell(l[i].(string)), l[i+1].(api.Content))
	}
	return g
}

func toldNode(n api.Node) string {
	var b strings.Builder
	fmt.Fprintf(&b, "%d/%d/%x/%q/%v/%d/%v/%v(", n.Kind, n.Op, math.Float64bits(n.X), n.S, n.B, n.F, n.Ref, n.To)
	for _, a := range n.Args {
		b.WriteString(toldNode(a))
	}
	return b.String() + ")"
}

// told is all that a content has, bit by bit.
func told(c api.Content) string {
	return fmt.Sprintf("%d %d/%x/%q/%v/%d %s", c.Kind, c.V.Kind, math.Float64bits(c.V.X), c.V.S, c.V.B, c.V.F, toldNode(c.F))
}

// toldGrid is all that a grid has, bit by bit.
func toldGrid(g *grid.Grid) string {
	if g == nil {
		return "no grid"
	}
	var b strings.Builder
	for at, c := range g.All() {
		fmt.Fprintf(&b, "%v: %s\n", at, told(c))
	}
	return b.String()
}

func short(s string) string {
	if len(s) > 300 {
		return s[:150] + ".." + s[len(s)-100:]
	}
	return s
}

// bytesOf are bytes that are written in hexadecimal digits, with blanks and commas between.
func bytesOf(digits string) string {
	b, err := hex.DecodeString(strings.NewReplacer(" ", "", ",", "").Replace(digits))
	if err != nil {
		panic(err)
	}
	return string(b)
}

// summed is what stands ahead of a file's sum, with that behind it.
func summed(b string) string {
	return string(binary.LittleEndian.AppendUint32([]byte(b), crc32.ChecksumIEEE([]byte(b))))
}

// sealed is a file of what stands between its head and its sum, in hexadecimal digits.
func sealed(digits string) string { return summed("QDR1" + bytesOf(digits)) }

// packs holds what Pack answers against a file, and what Unpack reads of that against the grid.
func packs(t testing.TB, g *grid.Grid, want string) {
	t.Helper()
	was := toldGrid(g)
	s, err := packed.Pack(g)
	if err != api.OK || s != want {
		t.Errorf("P24.1: Pack of %s: %s, error %d, not %s", short(was), short(hex.EncodeToString([]byte(s))), err, short(hex.EncodeToString([]byte(want))))
	}
	if toldGrid(g) != was {
		t.Errorf("R3: Pack has changed the grid %s", short(was))
	}
	h, err := packed.Unpack(want)
	if err != api.OK || toldGrid(h) != was {
		t.Errorf("P24.2: Unpack of the file of %s: %s, error %d", short(was), short(toldGrid(h)), err)
	}
}

// packsCell holds the bytes of A1's content against hexadecimal digits.
func packsCell(t testing.TB, c api.Content, digits string) {
	t.Helper()
	packs(t, gridOf("A1", c), sealed("0100 01000100"+digits))
}

// refuses holds what Unpack answers against an error, beside which there is no grid.
func refuses(t testing.TB, b string, want api.Errno) {
	t.Helper()
	g, err := packed.Unpack(b)
	if err != want || g != nil {
		t.Errorf("P24.2: Unpack(%s), %d bytes: %s, error %d, not %d", short(hex.EncodeToString([]byte(b))), len(b), short(toldGrid(g)), err, want)
	}
}

// refusesCell holds it of a file whose sum is right, and which has A1 alone, against ErrForm.
func refusesCell(t testing.TB, digits string) {
	t.Helper()
	refuses(t, sealed("0100 01000100"+digits), api.ErrForm)
}

// toldNumbers are numbers, bit by bit.
func toldNumbers(l []float64) string {
	var b strings.Builder
	for _, x := range l {
		fmt.Fprintf(&b, "%016x ", math.Float64bits(x))
	}
	return b.String()
}

// nans are numbers that are none of mathematics.
func nans() []float64 {
	var l []float64
	for _, b := range []uint64{theNaN, theNaN + 1, 0xFFF8000000000000, 0x7FF0000000000001, 0xFFF0000000000001, 0x7FFFFFFFFFFFFFFF, 0xFFFFFFFFFFFFFFFF, 0x7FF4000000000000, 0x7FF8000100000000} {
		l = append(l, math.Float64frombits(b))
	}
	return l
}

// numbers are numbers of every kind but the NaN.
func numbers() []float64 {
	return []float64{0, minus, math.Inf(1), math.Inf(-1), 1, -1, .5, .1, -.1, 1.5, 1e21, 5e-324, -5e-324, 0x1p-1022, 0x1.fffffffffffffp-1023, -0x1p-1022, math.MaxFloat64, -math.MaxFloat64, math.MaxFloat32, -math.MaxFloat32,
		0x1p-149, -0x1p-149, 0x1p-150, -0x1p-150, 0x1.8p-150, 0x1p-151, 0x1.8p-149, 0x1p-126, 0x1.fffffep-127, 0x1.fffffffffffffp-127, 0x1p128, -0x1p128, 0x1p128 - 0x1p103, -(0x1p128 - 0x1p103), 0x1p128 - 0x1p102, 0x1.fffffefffffffp127, 0x1.0000010000001p0, 0x1.000001p0, 0x1.000003p0, 0x1.0000008p0, 1e39, -1e39, 1e-46, math.Pi}
}
