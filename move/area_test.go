package move_test

import (
	"fmt"
	"testing"

	"quadrille/api"
)

// P22.5: Move.

func TestMove(t *testing.T) {
	for _, c := range []struct{ g, from, to, want string }{
		{chapter, "A1:A2", "C1", "B1 =A3*2; C1 1; C2 2; A3 =SUM(C1:C2)+C2"}, {chapter, "A2", "A1", "A1 2; B1 =A3*2; A3 =SUM(A1:A2)+A1"}, {chapter, "B1", "A2", "A1 1; A2 =A3*2; A3 =SUM(A1:A2)+#REF!"},
		// over a part of itself, either way
		{chapter, "A1:A3", "A2", "B1 =A4*2; A2 1; A3 2; A4 =SUM(A2:A3)+A3"}, {chapter, "A2:A4", "A1", "A1 2; B1 =A2*2; A2 =SUM(#REF!)+A1"}, {"A1 1; B1 2; C1 3; D9 =A1&B1&C1&D1", "A1:C1", "B1", "B1 1; C1 2; D1 3; D9 =B1&C1&D1&#REF!"}, {"A1 1; B1 2; C1 3; D9 =A1&B1&C1&D1", "B1:D1", "A1", "A1 2; B1 3; D9 =#REF!&A1&B1&C1"},
		// onto itself, beside itself
		{chapter, "A1:B3", "A1", chapter}, {chapter, "A1:IV4096", "A1", chapter}, {chapter, "A2", "A2", chapter}, {chapter, "A1:A3", "B1", "B1 1; B2 2; B3 =SUM(B1:B2)+B2"}, {"A1 1; A2 2; A3 =A1+A2+SUM(A1:A2)", "A1", "A2", "A2 1; A3 =A2+#REF!+SUM(A1:A2)"},
		// empty cells too
		{chapter, "C1:C2", "A1", "B1 =A3*2; A3 =SUM(#REF!)+#REF!"}, {chapter, "C1:C3", "A2", "A1 1; B1 =#REF!*2"}, {chapter, "C9:D9", "F9", chapter}, {chapter, "A1:B1", "A2", "A2 1; B2 =A3*2; A3 =SUM(A1:A2)+#REF!"},
		// to the last row and column, and from there
		{chapter, "A1:B3", "IU4094", "IU4094 1; IV4094 =IU4096*2; IU4095 2; IU4096 =SUM(IU4094:IU4095)+IU4095"}, {"IV4096 =IV4096+A1", "IV4096", "A1", "A1 =A1+#REF!"}, {"IV4096 7; B1 =IV4096&IV4095&SUM(IV4096:IV4096)", "IV4096", "A1", "A1 7; B1 =A1&IV4095&SUM(A1:A1)"},
		// a row, a column
		{"A1 1; IV1 2; B2 =SUM(A1:IV1)+C1+A7+SUM(A7:IV7)+SUM(A1:IV2)", "A1:IV1", "A7", "B2 =SUM(A7:IV7)+C7+#REF!+SUM(#REF!)+SUM(A1:IV2); A7 1; IV7 2"}, {"A1 1; A4096 2; B2 =SUM(A1:A4096)+A9+SUM(A1:B4096)+SUM(C1:C4096)", "A1:A4096", "C1", "C1 1; B2 =SUM(C1:C4096)+C9+SUM(A1:B4096)+SUM(#REF!); C4096 2"},
		// formulas that are moved are not shifted
		{"A1 1; B2 =A1+B1+$A$1+SUM(A1:C3)", "B2", "D5", "A1 1; D5 =A1+B1+$A$1+SUM(A1:C3)"}, {"B2 =B2+B3+A1", "B2", "A1", "A1 =A1+B3+#REF!"},
		// marks stay with what they mark
		{"A1 1; D1 =$A$1+$A1+A$1+A1", "A1", "C9", "D1 =$C$9+$C9+C$9+C9; C9 1"}, {"D1 =SUM($A1:B$2,A$1:$B2,$A$1:B2,A1:$B$2,$A$2:A2)", "A1:B2", "F4", "D1 =SUM($F4:G$5,F$4:$G5,$F$4:G5,F4:$G$5,$F$5:F5)"}, {"D1 =$F$4+SUM($F$4:$G$5,$F4:F$4)", "A1:B2", "F4", "D1 =#REF!+SUM(#REF!,#REF!)"},
		// areas in from, in there, in both, across their edges
		{"A9 =SUM(A1:B2)+SUM(A1:A1)+SUM(B2:B2)+SUM(A1:B3)+SUM(A1:C2)+SUM(B2:C3)", "A1:B2", "E1", "A9 =SUM(E1:F2)+SUM(E1:E1)+SUM(F2:F2)+SUM(A1:B3)+SUM(A1:C2)+SUM(B2:C3)"},
		{"A9 =SUM(E1:F2)+SUM(E1:E1)+SUM(F2:F2)+SUM(E1:F3)+SUM(D1:F2)+SUM(F2:G3)+SUM(A1:F2)", "A1:B2", "E1", "A9 =SUM(#REF!)+SUM(#REF!)+SUM(#REF!)+SUM(E1:F3)+SUM(D1:F2)+SUM(F2:G3)+SUM(A1:F2)"},
		{"A9 =SUM(B1:B2)+SUM(B1:C2)+SUM(C1:C2)+SUM(A1:C2)+SUM(A1:B2)+B1+C2+A1", "A1:B2", "B1", "A9 =SUM(C1:C2)+SUM(#REF!)+SUM(#REF!)+SUM(A1:C2)+SUM(B1:C2)+C1+#REF!+B1"},
		{"A9 =SUM(B2:B2)+SUM(B2:C2)+SUM(B2:C3)+SUM(A2:B2)+SUM(A1:C3)", "A1:B2", "B2", "A9 =SUM(C3:C3)+SUM(#REF!)+SUM(#REF!)+SUM(B3:C3)+SUM(A1:C3)"},
		// all cells at once
		{"A1 1; IV4096 =A1+SUM(A1:IV4096)", "A1:IV4096", "A1", "A1 1; IV4096 =A1+SUM(A1:IV4096)"}, {"A1 1; B1 =A1+SUM(A1:IV4096)+A4096", "A1:IV4095", "A2", "A2 1; B2 =A2+SUM(A1:IV4096)+#REF!"},
		// formulas in there are gone, whatever they name; what is lost stays lost
		{"A1 1; C1 =A1; D1 =#REF!+C1", "A1", "C1", "C1 1; D1 =#REF!+#REF!"}, {"A1 =#REF!; C1 #REF!", "A1", "B1", "B1 =#REF!; C1 #REF!"},
		// all kinds
		{"A1 -0; B1 NaN; C1 'A1; D1 FALSE; E1 #NUM!; F1 =\"A1\"&NA()", "A1:F1", "B2", "B2 -0; C2 NaN; D2 'A1; E2 FALSE; F2 #NUM!; G2 =\"A1\"&NA()"},
	} {
		moved(area(c.from), cell(c.to)).comesTo(t, laid(c.g), c.want)
	}
}

// TestMoveEverywhere: an area in each place around, formulas in from, in there and elsewhere that name each cell and each area of the window.
func TestMoveEverywhere(t *testing.T) {
	var list []string
	for i := range 5 {
		for k := range 5 {
			list = append(list, name(xy(2+i, 2+k)))
		}
	}
	g := laid("A1 7; H8 'x")
	i := 0
	for _, from := range list {
		for _, to := range list {
			a := cell(from)
			b := cell(to)
			if a.Col > b.Col || a.Row > b.Row {
				continue
			}
			at := xy(1+i%6, 1+i/6)
			if i >= 36 {
				at = xy(10+i%6, 1+i/6)
			}
			put(g, at, content(fmt.Sprintf("=SUM(%s:%s)+%s-$%s", from, to, from, to)))
			i++
		}
	}
	was := toldGrid(g)
	for _, from := range []string{"B2", "C3", "D4:E5", "B2:F6", "C3:C5", "B4:D4", "C3:E5"} {
		for col := 1; col <= 7; col++ {
			for row := 1; row <= 7; row++ {
				want, err := sheetOf(g).movedArea(area(from), xy(col, row))
				if err != api.OK {
					t.Fatal(err)
				}
				a := moved(area(from), xy(col, row))
				sameTold(t, a.what, toldGrid(a.mustDo(t, g)), want.told())
			}
		}
	}
	stays(t, g, was)
}
