package lines_test

import (
	"fmt"
	"math"
	"strings"
	"testing"

	"quadrille/api"
	"quadrille/grid"
	"quadrille/lines"
)

// P23.3: a sheet as lines.

func TestWrite(t *testing.T) {
	writes(t, grid.New(), "quadrille 1\nend 0\n")
	writes(t, &grid.Grid{}, "quadrille 1\nend 0\n")
	writes(t, gridOf("A2", form("A1*2"), "B1", text("a\\b\n"), "A1", num(.1)), "quadrille 1\nA1 0.1\nB1 'a\\\\b\\n\nA2 =A1*2\nend 3\n")
	for want, c := range map[string]api.Content{
		"0": num(0), "-0": num(minus), "1e21": num(1e21), "1e-8": num(1e-8), "5e-324": num(5e-324), "Inf": num(math.Inf(1)), "-Inf": num(math.Inf(-1)), "NaN": num(math.NaN()), "0.30000000000000004": num(0x1.3333333333334p-2),
		"TRUE": truth(true), "FALSE": truth(false), "#DIV!": fault(1), "#NUM!": fault(2), "#VALUE!": fault(3), "#REF!": fault(4), "#NONE!": fault(5),
		"'": text(""), "''": text("'"), "'5": text("5"), "'=A1": text("=A1"), "' ": text(" "), "' a ": text(" a "), "'abc": text("abc"), "'TRUE": text("TRUE"), "'end 1": text("end 1"), "'é日": text("é日"), `'\n\n`: text("\n\n"), `'\x0d\n`: text("\r\n"), `'\\n`: text(`\n`), `'\\\n`: text("\\\n"), `'\x09\x00\x7f`: text("\t\x00\x7f"),
		"=A1": form("a1"), "=SUM(A1:$B$2,3)": form("sum($b$2:a1, 3)"), `="a\\\n\x01""b"&B2`: form("\"a\\\n\x01\"\"b\"&B2"), "=1+2": form(" 1 + 2 "), "=-0": form("-0"), "=#REF!": form("#REF!"),
	} {
		writes(t, gridOf("C7", c), head+"C7 "+want+"\nend 1\n")
	}
	if s, err := lines.Write(nil); err != api.ErrArg || s != "" {
		t.Errorf("P23.3: Write of nil: %q, error %d", s, err)
	}
}

// Cells stand by row, then by column, in whichever order they were put.
func TestWriteOrder(t *testing.T) {
	g := gridOf("IV4096", num(9), "A2", num(5), "AA1", num(3), "Z1", num(2), "A1", num(1), "AZ1", num(4), "B2", num(6), "A10", num(8), "A9", num(7), "C3", num(1))
	put(g, cell("C3"), api.Content{})
	writes(t, g, head+"A1 1\nZ1 2\nAA1 3\nAZ1 4\nA2 5\nB2 6\nA9 7\nA10 8\nIV4096 9\nend 9\n")
	var b strings.Builder
	g = grid.New()
	for row := 16; row > 0; row-- {
		for col := 256; col > 0; col-- {
			put(g, xy(col, row), num(float64(row*1000+col)))
		}
	}
	for row := 1; row <= 16; row++ {
		for col := 1; col <= 256; col++ {
			fmt.Fprintf(&b, "%s%d %d\n", letters(col), row, row*1000+col)
		}
	}
	writes(t, g, head+b.String()+"end 4096\n")
}

// letters are a column's.
func letters(col int) string {
	if col <= 26 {
		return string(rune('A' + col - 1))
	}
	return string(rune('A'+(col-1)/26-1)) + string(rune('A'+(col-1)%26))
}

// inLine is a byte as it stands in a line.
func inLine(b byte) string {
	switch {
	case b == '\n':
		return `\n`
	case b == '\\':
		return `\\`
	case b < 32 || b == 127:
		return fmt.Sprintf(`\x%02x`, b)
	}
	return string([]byte{b})
}

// Each byte in a text, and in a formula's text, alone and among others.
func TestWriteBytes(t *testing.T) {
	for b := range 128 {
		s, in := string(rune(b)), inLine(byte(b))
		writes(t, gridOf("A1", text(s)), head+"A1 '"+in+"\nend 1\n")
		writes(t, gridOf("A1", text("a"+s+s+"0")), head+"A1 'a"+in+in+"0\nend 1\n")
		n := api.Node{Kind: api.NodeText, S: s}
		if b == '"' {
			in += in
		}
		writes(t, gridOf("A1", api.Content{Kind: api.Formula, F: n}), head+"A1 =\""+in+"\"\nend 1\n")
	}
	// Letters of two, three and four bytes, in which each byte above 127 that can stand in one does.
	var s strings.Builder
	for _, r := range []rune{0x80, 0xa0, 0xbf, 0xff, 0x7ff, 0x800, 0xd7ff, 0xe000, 0xffff, 0x10000, 0x10ffff} {
		s.WriteRune(r)
	}
	for r := rune(0x80); r <= 0xbf; r++ {
		s.WriteRune(r)
	}
	writes(t, gridOf("A1", text(s.String()), "B1", form("\""+s.String()+"\"")), head+"A1 '"+s.String()+"\nB1 =\""+s.String()+"\"\nend 2\n")
}

// ofSize is a grid that is told in so many bytes, and these.
func ofSize(size int) (*grid.Grid, string) {
	g := grid.New()
	var b strings.Builder
	b.WriteString(head)
	row, left := 0, size-len(head)-len("end 1024\n")
	for left > 0 {
		row++
		name := fmt.Sprintf("A%d '", row)
		room := left - len(name) - 1
		if room > 4096 {
			room = min(4096, room-2048) // so that enough is left for the last one
		}
		s := strings.Repeat("\x1f", room/4) + strings.Repeat("y", room%4)
		put(g, xy(1, row), text(s))
		line := name + strings.Repeat(`\x1f`, room/4) + strings.Repeat("y", room%4) + "\n"
		b.WriteString(line)
		left -= len(line)
	}
	if row < 1000 {
		panic("too few rows")
	}
	fmt.Fprintf(&b, "end %d\n", row)
	return g, b.String()
}

func TestWriteGreat(t *testing.T) {
	for _, size := range []int{api.MaxFile - 1, api.MaxFile} {
		g, s := ofSize(size)
		if len(s) != size {
			t.Fatalf("%d bytes, not %d", len(s), size)
		}
		writes(t, g, s)
	}
	for _, size := range []int{api.MaxFile + 1, api.MaxFile + 2, api.MaxFile + 9, api.MaxFile + 10, api.MaxFile + 11, api.MaxFile + 100} {
		g, s := ofSize(size)
		if len(s) != size {
			t.Fatalf("%d bytes, not %d", len(s), size)
		}
		if s, err := lines.Write(g); err != api.ErrLong || s != "" {
			t.Errorf("P23.3: Write of a grid of %d bytes: %d bytes, error %d", size, len(s), err)
		}
		noRead(t, s, api.ErrLong, 0)
	}
	// A formula that is too long to be told.
	g := gridOf("A1", num(1), "B2", long(4096))
	s, err := lines.Write(g)
	if err != api.OK {
		t.Errorf("P23.3: Write of a formula of 4096 bytes: error %d", err)
	}
	writes(t, g, s)
	put(g, cell("C1"), long(4097))
	if s, err := lines.Write(g); err != api.ErrLong || s != "" {
		t.Errorf("P23.3: Write of a formula of 4097 bytes: %d bytes, error %d", len(s), err)
	}
}
