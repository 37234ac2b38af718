package packed_test

import (
	"encoding/binary"
	"encoding/hex"
	"hash/crc32"
	"math"
	"math/rand"
	"strings"
	"testing"
	"unicode/utf8"

	"quadrille/api"
	"quadrille/grid"
	"quadrille/packed"
)

// The same once more, by other means: bytes by encoding/binary and hash/crc32; what is read is read leniently, packed by that, and must be those bytes.

func modelNumber(x float64) []byte {
	bits := math.Float64bits(x)
	if x != x {
		bits = theNaN
	}
	return binary.LittleEndian.AppendUint64(nil, bits)
}

func modelString(s string) []byte {
	return append(binary.LittleEndian.AppendUint16(nil, uint16(len(s))), s...)
}

func modelAddr(at api.Addr) []byte {
	return []byte{byte(at.Col), byte(at.Col >> 8), byte(at.Row), byte(at.Row >> 8)}
}

func modelTruth(b bool) []byte {
	if b {
		return []byte{1}
	}
	return []byte{0}
}

func modelRef(r api.Ref) []byte {
	return append(modelAddr(r.Addr), modelTruth(r.ColFixed)[0]|modelTruth(r.RowFixed)[0]<<1)
}

func modelNode(n api.Node) []byte {
	b := []byte{byte(n.Kind)}
	switch n.Kind {
	case api.NodeNumber:
		b = append(b, modelNumber(n.X)...)
	case api.NodeText:
		b = append(b, modelString(n.S)...)
	case api.NodeTruth:
		b = append(b, modelTruth(n.B)...)
	case api.NodeFault:
		b = append(b, byte(n.F))
	case api.NodeRef:
		b = append(b, modelRef(n.Ref)...)
	case api.NodeArea:
		b = append(append(b, modelRef(n.Ref)...), modelRef(n.To)...)
	case api.NodeUnary, api.NodeBinary:
		b = append(b, byte(n.Op))
	case api.NodeCall:
		b = append(append(b, modelString(n.S)...), byte(len(n.Args)))
	}
	for _, a := range n.Args {
		b = append(b, modelNode(a)...)
	}
	return b
}

func modelContent(c api.Content) []byte {
	if c.Kind == api.Formula {
		return append([]byte{2}, modelNode(c.F)...)
	}
	return append([]byte{1}, modelNode(api.Node{Kind: c.V.Kind, X: c.V.X, S: c.V.S, B: c.V.B, F: c.V.F})...)
}

// modelAhead is what stands ahead of a file's sum.
func modelAhead(g *grid.Grid) string {
	b := binary.LittleEndian.AppendUint16([]byte("QDR1"), uint16(g.Len()))
	for at, c := range g.All() {
		b = append(append(b, modelAddr(at)...), modelContent(c)...)
	}
	return string(b)
}

func modelPack(g *grid.Grid) string { return summed(modelAhead(g)) }

// cursor reads leniently: beyond the end it reads noughts, and says so.
type cursor struct {
	b    string
	over bool
}

func (c *cursor) take(n int) string {
	if n > len(c.b) {
		c.over = true
		return strings.Repeat("\x00", n)
	}
	s := c.b[:n]
	c.b = c.b[n:]
	return s
}

func (c *cursor) one() int { return int(c.take(1)[0]) }

func (c *cursor) two() int { return int(binary.LittleEndian.Uint16([]byte(c.take(2)))) }

func (c *cursor) addr() api.Addr {
	col := c.two()
	return api.Addr{Col: col, Row: c.two()}
}

func (c *cursor) ref() api.Ref {
	at, fixed := c.addr(), c.one()
	return api.Ref{Addr: at, ColFixed: fixed%2 == 1, RowFixed: fixed/2%2 == 1}
}

func (c *cursor) node() api.Node {
	n := api.Node{Kind: c.one()}
	parts := 0
	switch n.Kind {
	case 1:
		n.X = math.Float64frombits(binary.LittleEndian.Uint64([]byte(c.take(8))))
	case 2, 9:
		n.S = c.take(c.two())
		if n.Kind == 9 {
			parts = c.one()
		}
	case 3:
		n.B = c.one() > 0
	case 4:
		n.F = c.one()
	case 5:
		n.Ref = c.ref()
	case 6:
		n.Ref, n.To = c.ref(), c.ref()
	case 7, 8:
		n.Op, parts = c.one(), n.Kind-6
	}
	for range parts {
		if c.over {
			break
		}
		n.Args = append(n.Args, c.node())
	}
	return n
}

func (c *cursor) content() api.Content {
	if kind := c.one(); kind != 1 {
		return api.Content{Kind: kind, F: c.node()}
	}
	n := c.node()
	return api.Content{Kind: 1, V: api.Value{Kind: n.Kind, X: n.X, S: n.S, B: n.B, F: n.F}}
}

func modelUnpack(b string) (*grid.Grid, api.Errno) {
	switch {
	case len(b) > 4194304:
		return nil, api.ErrLong
	case len(b) < 4 || b[:4] != "QDR1":
		return nil, api.ErrHead
	case len(b) < 10:
		return nil, api.ErrForm
	case binary.LittleEndian.Uint32([]byte(b[len(b)-4:])) != crc32.ChecksumIEEE([]byte(b[:len(b)-4])):
		return nil, api.ErrSum
	}
	c := &cursor{b: b[6 : len(b)-4]}
	g := grid.New()
	for c.b != "" && !c.over {
		at := c.addr()
		g.Put(at, c.content()) // what is refused is missing behind
	}
	if c.over || modelPack(g) != b {
		return nil, api.ErrForm
	}
	return g, api.OK
}

// modelled holds what Unpack answers of bytes against the model, and tells the error.
func modelled(t testing.TB, b string) api.Errno {
	t.Helper()
	want, no := modelUnpack(b)
	g, err := packed.Unpack(b)
	if err != no || toldGrid(g) != toldGrid(want) {
		t.Fatalf("P24.2: Unpack(%s): %s, error %d, not %s, %d", short(hex.EncodeToString([]byte(b))), short(toldGrid(g)), err, short(toldGrid(want)), no)
	}
	if err == api.OK {
		if s, err := packed.Pack(g); err != api.OK || s != b {
			t.Fatalf("P24.5: Pack of Unpack(%s): %s, error %d", short(hex.EncodeToString([]byte(b))), short(hex.EncodeToString([]byte(s))), err)
		}
	}
	return err
}

// chance draws things by chance.
type chance struct{ *rand.Rand }

func draw[T any](r chance, l []T) T { return l[r.Intn(len(l))] }

func (r chance) text() string {
	var b strings.Builder
	for range r.Intn(5) {
		b.WriteString(draw(r, []string{"a", "b", "\x00", "\x01\x02\x03", "é", "日", "QDR1", "\x7f", "\n", "\U0010ffff", "SUM", string(rune(r.Intn(256))), strings.Repeat("x", r.Intn(300))}))
	}
	if s := b.String(); len(s) <= api.MaxText {
		return s
	}
	return "long"
}

func (r chance) number() float64 {
	switch r.Intn(5) {
	case 0:
		return draw(r, numbers())
	case 1:
		return draw(r, nans())
	case 2:
		return math.Ldexp(r.NormFloat64(), r.Intn(340)-170)
	case 3:
		return float64(r.Intn(2000)-1000) / 8
	}
	return math.Float64frombits(r.Uint64())
}

func (r chance) value() api.Value {
	switch r.Intn(4) {
	case 0:
		return truth(r.Intn(2) == 0).V
	case 1:
		return fault(1 + r.Intn(5)).V
	case 2:
		return num(r.number()).V
	}
	return text(r.text()).V
}

func (r chance) ref() api.Ref {
	return api.Ref{Addr: xy(1+r.Intn(256), 1+r.Intn(4096)), ColFixed: r.Intn(2) == 0, RowFixed: r.Intn(2) == 0}
}

func (r chance) area() api.Node {
	a, b := r.ref(), r.ref()
	a.Addr.Col, b.Addr.Col = min(a.Addr.Col, b.Addr.Col), max(a.Addr.Col, b.Addr.Col)
	a.Addr.Row, b.Addr.Row = min(a.Addr.Row, b.Addr.Row), max(a.Addr.Row, b.Addr.Row)
	return api.Node{Kind: api.NodeArea, Ref: a, To: b}
}

// leaf is a node without parts.
func (r chance) leaf() api.Node {
	switch r.Intn(6) {
	case 0:
		return api.Node{Kind: api.NodeText, S: r.text()}
	case 1:
		return api.Node{Kind: api.NodeTruth, B: r.Intn(2) == 0}
	case 2:
		return api.Node{Kind: api.NodeFault, F: 1 + r.Intn(5)}
	case 3:
		x := math.Abs(r.number())
		if x != x || math.IsInf(x, 0) {
			x = 0.1
		}
		return api.Node{Kind: api.NodeNumber, X: x}
	case 4:
		return api.Node{Kind: api.NodeCall, S: "NA"}
	}
	return api.Node{Kind: api.NodeRef, Ref: r.ref()}
}

// node is a formula so many nodes deep at most.
func (r chance) node(deep int) api.Node {
	if deep <= 1 {
		return r.leaf()
	}
	switch r.Intn(3) {
	case 0:
		return api.Node{Kind: api.NodeUnary, Op: 1 + r.Intn(3), Args: []api.Node{r.node(deep - 1)}}
	case 1:
		return api.Node{Kind: api.NodeBinary, Op: 4 + r.Intn(12), Args: []api.Node{r.node(deep - 1), r.node(deep - 1 - r.Intn(2))}}
	}
	n := api.Node{Kind: api.NodeCall, S: draw(r, []string{"JOIN", "SUM", "COUNTA"})}
	for range 1 + r.Intn(3) {
		n.Args = append(n.Args, r.node(deep-1))
	}
	if r.Intn(2) == 0 {
		n.Args[0] = r.area()
	}
	return n
}

func (r chance) content() api.Content {
	if r.Intn(2) == 0 {
		return made(r.node(1 + r.Intn(4)))
	}
	return api.Content{Kind: api.Plain, V: r.value()}
}

// near is a cell, mostly one among few.
func (r chance) near() api.Addr {
	if r.Intn(5) == 0 {
		return xy(1+r.Intn(256), 1+r.Intn(4096))
	}
	return xy(1+r.Intn(3), 1+r.Intn(3))
}

func (r chance) grid(most int) *grid.Grid {
	g := grid.New()
	for range r.Intn(most + 1) {
		put(g, r.near(), r.content())
	}
	return g
}

// spoilt is bytes with some bytes put in, taken out, or turned, and with a right sum.
func (r chance) spoilt(s string) string {
	s = s[:len(s)-4]
	for range 1 + r.Intn(2) {
		i := 4 + r.Intn(len(s)-3)
		j := min(len(s), i+r.Intn(4))
		switch r.Intn(4) {
		case 0:
			s = s[:i] + string([]byte{byte(r.Intn(12))}) + s[i:]
		case 1:
			s = s[:i] + s[j:]
		case 2:
			s = s[:i] + string([]byte{byte(r.Intn(12))}) + s[min(i+1, len(s)):]
		case 3:
			s = s[:i] + string([]byte{byte(r.Intn(256))}) + s[min(i+1, len(s)):]
		}
	}
	return summed(s)
}

func TestModelUnpack(t *testing.T) {
	r := chance{rand.New(rand.NewSource(24))}
	codes := map[api.Errno]int{}
	for range 60000 {
		s, err := packed.Pack(r.grid(3))
		if err != api.OK {
			t.Fatalf("P24.1: Pack: error %d", err)
		}
		s = r.spoilt(s)
		if r.Intn(20) == 0 {
			i := r.Intn(len(s))
			s = s[:i] + string([]byte{byte(r.Intn(256))}) + s[i+1:]
		}
		codes[modelled(t, s)]++
	}
	for _, code := range []api.Errno{api.OK, api.ErrForm, api.ErrHead, api.ErrSum} {
		if codes[code] < 50 {
			t.Errorf("too few answers with error %d: %v", code, codes)
		}
	}
}

// Bytes that no file was, but for their head and sum.
func TestModelAnyBytes(t *testing.T) {
	r := chance{rand.New(rand.NewSource(25))}
	codes := map[api.Errno]int{}
	for range 60000 {
		b := []byte{byte(r.Intn(3)), 0}
		for i := 0; i < int(b[0]); i++ {
			b = append(b, modelAddr(xy(1, 1+i))...)
			b = append(b, byte(1+r.Intn(2)))
			for range r.Intn(6) {
				b = append(b, byte(r.Intn(10)))
			}
		}
		codes[modelled(t, summed("QDR1"+string(b)))]++
	}
	if codes[api.OK] < 1000 || codes[api.ErrForm] < 1000 {
		t.Errorf("too few answers of a kind: %v", codes)
	}
}

func TestModelPack(t *testing.T) {
	r := chance{rand.New(rand.NewSource(26))}
	for range 10000 {
		g := r.grid(6)
		packs(t, g, modelPack(g))
		if t.Failed() {
			return
		}
	}
	if !utf8.ValidString(r.text()) {
		t.Error("a text that no cell may have")
	}
}
