package move_test

import (
	"fmt"
	"math"
	"strings"
	"testing"

	"quadrille/api"
	"quadrille/grid"
	"quadrille/move"
)

// P22.2: Rows, Cols.

func TestRows(t *testing.T) {
	g := laid(chapter)
	for _, c := range []struct {
		at, n int
		want  string
	}{
		{2, 1, "A1 1; B1 =A4*2; A3 2; A4 =SUM(A1:A3)+A3"}, {2, -1, "A1 1; B1 =A2*2; A2 =SUM(A1:A1)+#REF!"}, {1, -2, "A1 =SUM(#REF!)+#REF!"},
		{1, 0, chapter}, {4096, 0, chapter}, {4, 1, chapter}, {4, -1, chapter}, {4, 4096, chapter}, {4, -4096, chapter}, {4096, 4096, chapter}, {4096, 1, chapter}, {4096, -1, chapter}, {4096, -4096, chapter},
		{1, 1, "A2 1; B2 =A4*2; A3 2; A4 =SUM(A2:A3)+A3"}, {1, -1, "A1 2; A2 =SUM(A1:A1)+A1"}, {3, 2, "A1 1; B1 =A5*2; A2 2; A5 =SUM(A1:A2)+A2"}, {3, -1, "A1 1; B1 =#REF!*2; A2 2"}, {3, -4096, "A1 1; B1 =#REF!*2; A2 2"},
		{2, -2, "A1 1; B1 =#REF!*2"}, {2, -4096, "A1 1; B1 =#REF!*2"}, {1, -3, ""}, {1, -4096, ""},
		{1, 4093, "A4094 1; B4094 =A4096*2; A4095 2; A4096 =SUM(A4094:A4095)+A4095"}, {3, 4093, "A1 1; B1 =A4096*2; A2 2; A4096 =SUM(A1:A2)+A2"},
	} {
		rows(c.at, c.n).comesTo(t, g, c.want)
	}
	for _, n := range []int{4094, 4095, 4096} {
		for _, at := range []int{1, 2, 3} {
			rows(at, n).isRefused(t, g, api.ErrAddr)
		}
	}
}

func TestCols(t *testing.T) {
	g := laid("A1 1; B1 2; C1 =SUM(A1:B1)+B1; A2 =C1*2; IV9 'x")
	for _, c := range []struct {
		at, n int
		want  string
	}{
		{2, -1, "A1 1; B1 =SUM(A1:A1)+#REF!; A2 =B1*2; IU9 'x"}, {1, -2, "A1 =SUM(#REF!)+#REF!; IT9 'x"}, {3, -1, "A1 1; B1 2; A2 =#REF!*2; IU9 'x"}, {4, -252, "A1 1; B1 2; C1 =SUM(A1:B1)+B1; A2 =C1*2; D9 'x"},
		{4, -253, "A1 1; B1 2; C1 =SUM(A1:B1)+B1; A2 =C1*2"}, {4, -256, "A1 1; B1 2; C1 =SUM(A1:B1)+B1; A2 =C1*2"}, {256, -256, "A1 1; B1 2; C1 =SUM(A1:B1)+B1; A2 =C1*2"}, {1, -256, ""}, {1, -255, "A9 'x"},
		{1, 0, told(g)}, {256, 0, told(g)}, {3, 0, told(g)},
	} {
		cols(c.at, c.n).comesTo(t, g, c.want)
	}
	for _, at := range []int{1, 2, 4, 255, 256} {
		for _, n := range []int{1, 2, 255, 256} {
			cols(at, n).isRefused(t, g, api.ErrAddr)
		}
	}
	put(g, cell("IV9"), api.Content{})
	for _, c := range []struct {
		at, n int
		want  string
	}{
		{1, 1, "B1 1; C1 2; D1 =SUM(B1:C1)+C1; B2 =D1*2"}, {2, 1, "A1 1; C1 2; D1 =SUM(A1:C1)+C1; A2 =D1*2"}, {3, 253, "A1 1; B1 2; IV1 =SUM(A1:B1)+B1; A2 =IV1*2"}, {1, 253, "IT1 1; IU1 2; IV1 =SUM(IT1:IU1)+IU1; IT2 =IV1*2"},
		{4, 256, told(g)}, {4, 1, told(g)}, {256, 256, told(g)},
	} {
		cols(c.at, c.n).comesTo(t, g, c.want)
	}
	cols(1, 254).isRefused(t, g, api.ErrAddr)
	cols(3, 254).isRefused(t, g, api.ErrAddr)
	cols(3, 256).isRefused(t, g, api.ErrAddr)
	h := laid(chapter)
	cols(1, 1).comesTo(t, h, "B1 1; C1 =B3*2; B2 2; B3 =SUM(B1:B2)+B2")
	cols(1, -1).comesTo(t, h, "A1 =#REF!*2")
	cols(2, -1).comesTo(t, h, "A1 1; A2 2; A3 =SUM(A1:A2)+A2")
}

// TestFallsOff: a cell at the last line that is not empty, whatever it has, stands against all lines put in, and against none taken out.
func TestFallsOff(t *testing.T) {
	for _, c := range []string{"1", "-0", "NaN", "'", "'x", "FALSE", "#REF!", "=1", "=A1"} {
		g := laid("IV4096 " + c)
		for _, at := range []int{1, 2, 100, 255, 256} {
			for _, n := range []int{1, 2, 100, 256} {
				rows(at, n).isRefused(t, g, api.ErrAddr)
				rows(at+3840, n).isRefused(t, g, api.ErrAddr)
				cols(at, n).isRefused(t, g, api.ErrAddr)
				rows(at+3840, -n).mustDo(t, g)
				cols(at, -n).mustDo(t, g)
			}
		}
		rows(4096, 4096).isRefused(t, g, api.ErrAddr)
		rows(4096, -1).comesTo(t, g, "")
		cols(256, -1).comesTo(t, g, "")
		rows(4095, -1).comesTo(t, g, "IV4095 "+c)
		cols(255, -1).comesTo(t, g, "IU4096 "+c)
		rows(1, -4095).comesTo(t, g, "IV1 "+strings.ReplaceAll(c, "=A1", "=#REF!"))
		cols(1, -255).comesTo(t, g, "A4096 "+strings.ReplaceAll(c, "=A1", "=#REF!"))
	}
	// One cell ahead of the last one has just one line's room.
	g := laid("IU4095 'x; A1 =IU4095+IV4096+SUM(IU4095:IV4096)")
	rows(2, 1).comesTo(t, g, "A1 =IU4096+#REF!+SUM(IU4096:IV4096); IU4096 'x")
	cols(2, 1).comesTo(t, g, "A1 =IV4095+#REF!+SUM(IV4095:IV4096); IV4095 'x")
	rows(2, 2).isRefused(t, g, api.ErrAddr)
	cols(2, 2).isRefused(t, g, api.ErrAddr)
	// Empty cells fall off, what names them is lost.
	rows(4096, 1).comesTo(t, g, "A1 =IU4095+#REF!+SUM(IU4095:IV4095); IU4095 'x")
	cols(256, 1).comesTo(t, g, "A1 =IU4095+#REF!+SUM(IU4095:IU4096); IU4095 'x")
}

// TestContentsAreBrought: all kinds of contents come as they are, bit by bit, but for references.
func TestContentsAreBrought(t *testing.T) {
	g := laid("A2 1; B2 -0; C2 NaN; D2 Inf; E2 5e-324; F2 '; G2 'A2; H2 '=A2; I2 TRUE; J2 FALSE; K2 #DIV!; L2 #REF!; M2 =A2&\"A2\"&$B$2; N2 =#REF!+#DIV!; O2 =1%; P2 =SUM(A1:A3,A2,$C$2)")
	rows(2, 5).comesTo(t, g, "A7 1; B7 -0; C7 NaN; D7 +Inf; E7 5e-324; F7 '; G7 'A2; H7 '=A2; I7 TRUE; J7 FALSE; K7 #DIV!; L7 #REF!; M7 =A7&\"A2\"&$B$7; N7 =#REF!+#DIV!; O7 =1%; P7 =SUM(A1:A8,A7,$C$7)")
	rows(1, -1).comesTo(t, g, "A1 1; B1 -0; C1 NaN; D1 +Inf; E1 5e-324; F1 '; G1 'A2; H1 '=A2; I1 TRUE; J1 FALSE; K1 #DIV!; L1 #REF!; M1 =A1&\"A2\"&$B$1; N1 =#REF!+#DIV!; O1 =1%; P1 =SUM(A1:A2,A1,$C$1)")
	cols(3, -1).comesTo(t, g, "A2 1; B2 -0; C2 +Inf; D2 5e-324; E2 '; F2 'A2; G2 '=A2; H2 TRUE; I2 FALSE; J2 #DIV!; K2 #REF!; L2 =A2&\"A2\"&$B$2; M2 =#REF!+#DIV!; N2 =1%; O2 =SUM(A1:A3,A2,#REF!)")
}

// TestEachFormulaIsAsFormulaHasIt.
func TestEachFormulaIsAsFormulaHasIt(t *testing.T) {
	g := grid.New()
	texts := []string{"A1+IV4096", "SUM(A1:IV4096)", "SUM(B2:$C$9,$D4)", "IF(A5,B$6,SUM($A$5:B6))", "7", "#REF!", "A4096+IV1", "SUM(A4090:B4096,IQ1:IV2)"}
	for i, text := range texts {
		put(g, xy(1+i, 1+i), content("="+text))
	}
	for _, way := range []bool{false, true} {
		for _, at := range []int{1, 3, 5, 250, 256} {
			for _, n := range []int{0, 1, -1, 6, -6, 100, -100, 248, -256} {
				h, err := move.Rows(g, at, n)
				if way {
					h, err = move.Cols(g, at, n)
				}
				if err != api.OK {
					t.Errorf("P22.2: cols %v, %d, %d: error %d", way, at, n, err)
					continue
				}
				for i, text := range texts {
					if n < 0 && 1+i >= at && 1+i < at-n {
						continue
					}
					line := 1 + i
					if line >= at {
						line += n
					}
					place := xy(1+i, line)
					if way {
						place = xy(line, 1+i)
					}
					want, _ := move.Formula(tree(text), way, at, n)
					sameTold(t, fmt.Sprintf("P22.2: cols %v, %d, %d: %s at %s", way, at, n, text, name(place)), toldNode(h.Get(place).F), toldNode(want))
				}
			}
		}
	}
}

// TestLinesRefused: lines and counts that may not be, ahead of cells that would fall off.
func TestLinesRefused(t *testing.T) {
	for _, g := range []*grid.Grid{grid.New(), laid(chapter), laid("IV4096 1"), full()} {
		was := toldGrid(g)
		for _, at := range noNumbers() {
			for _, n := range []int{0, 1, -1, 4096, math.MaxInt} {
				rows(at, n).isRefused(t, g, api.ErrArg)
				cols(at, n).isRefused(t, g, api.ErrArg)
			}
		}
		cols(257, 1).isRefused(t, g, api.ErrArg)
		cols(4096, 0).isRefused(t, g, api.ErrArg)
		for _, n := range []int{math.MinInt, math.MinInt + 1, -4097, 4097, 1<<32 + 1, math.MaxInt} {
			for _, at := range []int{1, 9, 256} {
				rows(at, n).isRefused(t, g, api.ErrArg)
				cols(at, n).isRefused(t, g, api.ErrArg)
			}
			rows(4096, n).isRefused(t, g, api.ErrArg)
		}
		for _, n := range []int{257, -257, 4096, -4096} {
			cols(1, n).isRefused(t, g, api.ErrArg)
			cols(256, n).isRefused(t, g, api.ErrArg)
		}
		stays(t, g, was)
	}
}

// TestLinesOfAFullGrid: as many cells as may be come along, or go.
func TestLinesOfAFullGrid(t *testing.T) {
	g := full()
	was := toldGrid(g)
	for _, c := range []struct{ at, n, count int }{{1, 4064, 4096}, {17, 4064, 4096}, {1, 1, 4096}, {33, 4096, 4096}, {1, 0, 4096}, {1, -1, 3968}, {32, -4096, 31 * 128}, {1, -32, 0}, {5, -4, 28 * 128}} {
		h := rows(c.at, c.n).mustDo(t, g)
		want, _ := sheetOf(g).byLines(false, c.at, c.n)
		sameTold(t, rows(c.at, c.n).what, toldGrid(h), want.told())
		if h.Len() != c.count {
			t.Errorf("P22.2: %d cells, not %d", h.Len(), c.count)
		}
	}
	rows(1, 4065).isRefused(t, g, api.ErrAddr)
	cols(1, 1).isRefused(t, g, api.ErrAddr)
	for _, n := range []int{-1, -2, -256} {
		want, _ := sheetOf(g).byLines(true, 2, n)
		sameTold(t, cols(2, n).what, toldGrid(cols(2, n).mustDo(t, g)), want.told())
	}
	stays(t, g, was)
}
