package packed_test

import (
	"encoding/binary"
	"encoding/hex"
	"fmt"
	"math"
	"strings"
	"testing"
	"unicode/utf8"

	"quadrille/api"
	"quadrille/grid"
	"quadrille/packed"
)

// P24.1: Pack; that each file is read as its grid again is asked by packs.

func TestPackExamples(t *testing.T) {
	packs(t, grid.New(), sealed("0000"))
	packs(t, gridOf("A1", num(1.5), "B1", form("A1+$A$1")), sealed("02 00, 01 00 01 00 01 01 00 00 00 00 00 00 F8 3F, 02 00 01 00 02 08 04 05 01 00 01 00 00 05 01 00 01 00 03"))
}

func TestPackNone(t *testing.T) {
	if s, err := packed.Pack(nil); s != "" || err != api.ErrArg {
		t.Errorf("P24.1: Pack(nil): %x, error %d", s, err)
	}
	packs(t, &grid.Grid{}, sealed("0000"))
	g := gridOf("A1", num(1), "B7", text("x"))
	put(g, cell("A1"), api.Content{})
	packs(t, g, sealed("0100 0200 0700 01 02 0100 78"))
	put(g, cell("B7"), api.Content{})
	packs(t, g, sealed("0000"))
}

// The sum, by hand, a bit at a time.
func TestSumByHand(t *testing.T) {
	s, _ := packed.Pack(grid.New())
	crc := ^uint32(0)
	for _, b := range []byte("QDR1\x00\x00") {
		crc ^= uint32(b)
		for range 8 {
			if crc%2 == 1 {
				crc = crc/2 ^ 0xEDB88320
			} else {
				crc /= 2
			}
		}
	}
	if len(s) != 10 || binary.LittleEndian.Uint32([]byte(s[6:])) != ^crc {
		t.Errorf("P24.1: the sum of a new grid's file: %x, not %x", s, ^crc)
	}
}

func TestPackPlaces(t *testing.T) {
	for _, c := range []struct{ at, digits string }{{"A1", "0100 0100"}, {"IV4096", "0001 0010"}, {"IU4095", "FF00 FF0F"}, {"A256", "0100 0001"}, {"Z9", "1A00 0900"}} {
		packs(t, gridOf(c.at, truth(true)), sealed("0100"+c.digits+"01 03 01"))
	}
	// Row by row, whichever one was put first.
	packs(t, gridOf("A3", truth(true), "B2", truth(false), "C1", truth(true), "A2", truth(true), "IV1", truth(false)),
		sealed("0500 0300 0100 010301, 0001 0100 010300, 0100 0200 010301, 0200 0200 010300, 0100 0300 010301"))
}

func TestPackValues(t *testing.T) {
	packsCell(t, truth(false), "01 03 00")
	packsCell(t, truth(true), "01 03 01")
	for f := 1; f <= 5; f++ {
		packsCell(t, fault(f), fmt.Sprintf("01 04 %02x", f))
		packsCell(t, made(api.Node{Kind: api.NodeFault, F: f}), fmt.Sprintf("02 04 %02x", f))
	}
	for digits, x := range map[string]float64{"0000000000000000": 0, "0000000000000080": minus, "000000000000F07F": math.Inf(1), "000000000000F0FF": math.Inf(-1), "0100000000000000": 5e-324, "0000000000001000": 0x1p-1022, "FFFFFFFFFFFFEF7F": math.MaxFloat64, "9A9999999999B93F": .1, "9A9999999999B9BF": -.1} {
		packsCell(t, num(x), "01 01"+digits)
		if x > 0 && !math.IsInf(x, 0) {
			packsCell(t, made(api.Node{Kind: api.NodeNumber, X: x}), "02 01"+digits)
		}
	}
	packsCell(t, form("0"), "02 01 0000000000000000")
	for _, x := range nans() {
		packsCell(t, num(x), "01 01 000000000000F87F")
	}
	for _, x := range numbers() {
		packsCell(t, num(x), "01 01"+hex.EncodeToString(binary.LittleEndian.AppendUint64(nil, math.Float64bits(x))))
	}
}

// Every byte that right UTF-8 can have, alone or among others.
func TestPackTexts(t *testing.T) {
	var all strings.Builder
	seen := map[byte]bool{}
	for r := rune(0); r < 0x110000; r = r*17/16 + 1 {
		if utf8.ValidRune(r) {
			all.WriteRune(r)
		}
	}
	l := []string{"", "a", "ab", "QDR1", "\x00", "\u00ff\ufffd", strings.Repeat("x", 255), strings.Repeat("x", 256), strings.Repeat("\x00", 1023), strings.Repeat("x", 1024), strings.Repeat("é", 512)}
	for r := rune(0); r < 256; r++ {
		l = append(l, string(r))
	}
	for _, lead := range []rune{0x80, 0xC0, 0x100, 0x7C0, 0x800, 0x1000, 0xFFC0, 0x10000, 0x40000, 0x80000, 0xC0000, 0x100000} {
		for i := rune(0); i < 64; i++ {
			l = append(l, string(lead+i))
		}
	}
	for r := rune(0x80); r < 0x800; r += 64 {
		l = append(l, string(r))
	}
	for r := rune(0x1000); r < 0xFFFF; r += 4096 {
		if utf8.ValidRune(r) {
			l = append(l, string(r))
		}
	}
	for s := all.String(); s != ""; {
		n := min(1024, len(s))
		for !utf8.ValidString(s[:n]) {
			n--
		}
		l, s = append(l, s[:n]), s[n:]
	}
	for _, s := range l {
		digits := hex.EncodeToString(binary.LittleEndian.AppendUint16(nil, uint16(len(s)))) + hex.EncodeToString([]byte(s))
		packsCell(t, text(s), "01 02"+digits)
		packsCell(t, made(api.Node{Kind: api.NodeText, S: s}), "02 02"+digits)
		for i := range len(s) {
			seen[s[i]] = true
		}
	}
	// C0, C1 and F5 to FF never stand in right UTF-8.
	if len(seen) != 256-13 {
		t.Errorf("too few bytes in texts: %d", len(seen))
	}
}

func TestPackNodes(t *testing.T) {
	packsCell(t, form("TRUE"), "02 03 01")
	packsCell(t, form("FALSE"), "02 03 00")
	packsCell(t, form("A1"), "02 05 01000100 00")
	packsCell(t, form("$A1"), "02 05 01000100 01")
	packsCell(t, form("A$1"), "02 05 01000100 02")
	packsCell(t, form("$A$1"), "02 05 01000100 03")
	packsCell(t, form("$IV4096"), "02 05 00010010 01")
	packsCell(t, form("NA()"), "02 09 0200 4E41 00")
	packsCell(t, form("SUM(TRUE)"), "02 09 0300 53554D 01 03 01")
	packsCell(t, form("SUM($B3:D$4,FALSE,SUM(NA()))"), "02 09 0300 53554D 03 06 02000300 01 04000400 02 03 00 09 0300 53554D 01 09 0200 4E41 00")
	packsCell(t, form("MAX(A1:A1)"), "02 09 0300 4D4158 01 06 01000100 00 01000100 00")
	for op := api.OpPlus; op <= api.OpPercent; op++ {
		packsCell(t, made(api.Node{Kind: api.NodeUnary, Op: op, Args: []api.Node{tree("TRUE")}}), fmt.Sprintf("02 07 %02x 03 01", op))
	}
	for op := api.OpAdd; op <= api.OpGe; op++ {
		packsCell(t, made(api.Node{Kind: api.NodeBinary, Op: op, Args: []api.Node{tree("FALSE"), tree("#REF!")}}), fmt.Sprintf("02 08 %02x 03 00 04 04", op))
	}
	// Left ahead of right, all the way down.
	packsCell(t, form(`-"a"&("b"<B2)%`), "02 08 09 07 02 02 0100 61 07 03 08 0C 02 0100 62 05 02000200 00")
}

func TestPackManyParts(t *testing.T) {
	for _, count := range []int{1, 2, 127, 128, 254, 255} {
		packsCell(t, made(sumOf(tree("TRUE"), count)), fmt.Sprintf("02 09 0300 53554D %02x", count)+strings.Repeat("03 01", count))
	}
	packsCell(t, made(signed(tree("TRUE"), 31)), "02"+strings.Repeat("07 02", 31)+"03 01")
	long := strings.Repeat("x", 1024)
	packsCell(t, made(sumOf(api.Node{Kind: api.NodeText, S: long}, 255)), "02 09 0300 53554D FF"+strings.Repeat("02 0004"+strings.Repeat("78", 1024), 255))
}

func TestPackFull(t *testing.T) {
	g := grid.New()
	var b strings.Builder
	b.WriteString("QDR1\x00\x10")
	for i := range api.MaxCells {
		at := xy(1+i%64*4, 1+i/64*65)
		put(g, at, fault(1+i%5))
		b.Write(binary.LittleEndian.AppendUint16(nil, uint16(at.Col)))
		b.Write(binary.LittleEndian.AppendUint16(nil, uint16(at.Row)))
		b.Write([]byte{1, 4, byte(1 + i%5)})
	}
	packs(t, g, summed(b.String()))
}

// texts is a grid whose file has so many bytes, of texts and, if it is to have one, of a formula of two hundred thousand bytes.
func texts(size int, formula bool) *grid.Grid {
	g := grid.New()
	i := 0
	add := func(c api.Content, bytes int) {
		put(g, xy(1+i%256, 1+i/256), c)
		size -= bytes
		i++
	}
	size -= 10
	if formula {
		add(made(sumOf(api.Node{Kind: api.NodeText, S: strings.Repeat("f", 1000)}, 200)), 4+1+7+200*1003)
	}
	for size > 3000 {
		add(text(strings.Repeat("x", 1024)), 8+1024)
	}
	for size > 0 {
		n := min(size, 1032)
		if rest := size - n; rest > 0 && rest < 8 {
			n -= 8
		}
		add(text(strings.Repeat("y", n-8)), n)
	}
	return g
}

func TestPackSizes(t *testing.T) {
	for _, formula := range []bool{false, true} {
		for _, size := range []int{1000, 300000, api.MaxFile - 5, api.MaxFile - 4, api.MaxFile - 3, api.MaxFile - 1, api.MaxFile} {
			if size < 250000 && formula {
				continue
			}
			g := texts(size, formula)
			s, err := packed.Pack(g)
			if err != api.OK || len(s) != size || s != modelPack(g) {
				t.Errorf("P24.1: Pack of %d bytes: %d, error %d", size, len(s), err)
			}
			if h, err := packed.Unpack(s); err != api.OK || !g.Equal(h) {
				t.Errorf("P24.2: Unpack of %d bytes: error %d", size, err)
			}
		}
		for _, over := range []int{1, 2, 3, 4, 5, 6, 7, 8, 9, 10, 11, 1000, 20000} {
			if s, err := packed.Pack(texts(api.MaxFile+over, formula)); s != "" || err != api.ErrLong {
				t.Errorf("P24.1: Pack of %d bytes too many: %d, error %d", over, len(s), err)
			}
		}
	}
}

// A grid whose file would have a billion bytes.
func TestPackFarTooLong(t *testing.T) {
	c := made(sumOf(api.Node{Kind: api.NodeText, S: strings.Repeat("f", 1024)}, 255))
	g := grid.New()
	for i := range api.MaxCells {
		put(g, xy(1+i%256, 1+i/256), c)
	}
	if s, err := packed.Pack(g); s != "" || err != api.ErrLong {
		t.Errorf("P24.1: Pack of a billion bytes: %d, error %d", len(s), err)
	}
}
