package desk_test

import (
	"strings"
	"testing"

	"quadrille/api"
	"quadrille/desk"
)

// P25.1: each command of the table, and its answer.

func TestNew(t *testing.T) {
	d := desk.New()
	says(t, d, "count", "0")
	says(t, d, "backs", "0 0")
	says(t, d, "bounds", "")
	says(t, d, "write", "quadrille 1\nend 0\n")
	says(t, d, "pack", emptyFile)
	says(t, d, "get IV4096", "")
	says(t, d, "typed A1", "")
	says(t, d, "users A1", "")
	says(t, d, "table A1:B2 g0", ",\n,\n")
	refuses(t, d, "end", api.ErrBack, 0)
	refuses(t, d, "drop", api.ErrBack, 0)
	refuses(t, d, "undo", api.ErrBack, 0)
	refuses(t, d, "redo", api.ErrBack, 0)
}

// Two desks have nothing to do with each other.
func TestDesksApart(t *testing.T) {
	d, o := desk.New(), desk.New()
	does(t, d, "put A1 7", "begin", "put A2 8")
	says(t, o, "count", "0")
	does(t, o, "put A1 9")
	does(t, d, "end")
	says(t, d, "get A1", "7")
	says(t, o, "get A2", "")
}

// A Desk made without New counts as a new one, whichever command comes first.
func TestZeroDesk(t *testing.T) {
	for _, c := range commands() {
		var zero desk.Desk
		got, bad := zero.Do(c.line)
		want, due := desk.New().Do(c.line)
		if got != want || bad != due {
			t.Errorf("R1: %s on a zero Desk: %q, %+v, not %q, %+v", c.line, got, bad, want, due)
		}
		zero.Do("drop")
		does(t, &zero, "put A1 7")
		says(t, &zero, "get A1", "7")
	}
}

func TestExamples(t *testing.T) {
	d := deskOf(t, "put A1 7", "put A2 =A1*2")
	says(t, d, "get A2", "14")
	says(t, d, "typed A2", "=A1*2")
	says(t, d, "users A1", "A2")
	does(t, d, "begin", "put A1 =A2")
	if got, bad := d.Do("end"); got != "" || bad != (api.Mishap{Code: api.ErrCycle}) {
		t.Errorf("P25.1: end: %q, %+v", got, bad)
	}
	says(t, d, "get A1", "7")
	refuses(t, d, "end", api.ErrBack, 0)
	does(t, d, "undo")
	says(t, d, "get A2", "")
	says(t, d, "backs", "1 1")
	does(t, d, "redo")
	says(t, d, "count", "2")
	says(t, d, "bounds", "A1:A2")
	refuses(t, d, "nothing", api.ErrCommand, 0)
	refuses(t, d, "get", api.ErrCommand, 3)
	refuses(t, d, "get A0", api.ErrForm, 4)
	refuses(t, d, "get A1 B2", api.ErrCommand, 7)
	refuses(t, d, "rows 1 x", api.ErrForm, 7)
	does(t, d, "rows 1 1")
	says(t, d, "typed A3", "=A2*2")
	does(t, d, "undo")
	says(t, d, "typed A2", "=A1*2")
	refuses(t, d, "unpack 0", api.ErrForm, 7)
	refuses(t, d, "unpack -", api.ErrHead, 0)
}

func TestPut(t *testing.T) {
	d := desk.New()
	for _, c := range []struct{ rest, typed, get string }{
		{"7", "7", "7"}, {"-0", "-0", "-0"}, {"1e21", "1e21", "1e21"}, {"NaN", "NaN", "NaN"}, {"-Inf", "-Inf", "-Inf"}, {"true", "TRUE", "TRUE"}, {"#ref!", "#REF!", "#REF!"},
		{"abc", "abc", "abc"}, {"'7", "'7", "7"}, {"'", "'", ""}, {"''", "''", "'"}, {"'=1", "'=1", "=1"}, {"# x", "# x", "# x"}, {"a b  c", "a b  c", "a b  c"}, {"1e999", "1e999", "1e999"},
		{"=1 + 2", "=1+2", "3"}, {"=$a$1&\"x\"", "=$A$1&\"x\"", "x"}, {"=1/0", "=1/0", "#DIV!"}, {"=1=1", "=1=1", "TRUE"}, {"é", "é", "é"}, {"", "", ""},
	} {
		does(t, d, "put B2 "+c.rest)
		says(t, d, "typed B2", c.typed)
		says(t, d, "get B2", c.get)
	}
	does(t, d, "put B2 7", "put B2 8")
	says(t, d, "get B2", "8")
}

func TestEmpty(t *testing.T) {
	d := deskOf(t, "put A1 7", "put A2 =A1", "empty A1")
	says(t, d, "count", "1")
	says(t, d, "get A2", "0")
	does(t, d, "undo")
	says(t, d, "get A2", "7")
	does(t, d, "empty B1") // no step: it was empty
	says(t, d, "backs", "2 1")
}

// get tells what each kind of value shows; show tells a number by a format, and all else as get does.
func TestGetAndShow(t *testing.T) {
	d := desk.New()
	for _, c := range []struct{ rest, get, format, show string }{
		{"1234.5", "1234.5", "f2,:10", "  1,234.50"}, {"0.1", "0.1", "g17", "0.10000000000000001"}, {"=2/3", "0.6666666666666666", "q2", "2/3"}, {"-0", "-0", "f1", "-0.0"}, {"0.256", "0.256", "p1", "25.6%"},
		{"NaN", "NaN", "s3", "NaN"}, {"Inf", "Inf", "f2:6", "   Inf"}, {"1e300", "1e300", "f0:3", "###"}, {"12345", "12345", "s1", "1.2e+04"},
		{"'12", "12", "f2", "12"}, {"'", "", "f2:10", ""}, {"x", "x", "f2:10", "x"}, {" ", " ", "f2", " "},
		{"TRUE", "TRUE", "f2", "TRUE"}, {"=1>2", "FALSE", "f2:20", "FALSE"},
		{"#DIV!", "#DIV!", "f2", "#DIV!"}, {"#NUM!", "#NUM!", "f2", "#NUM!"}, {"#VALUE!", "#VALUE!", "f2", "#VALUE!"}, {"#REF!", "#REF!", "f2", "#REF!"}, {"#NONE!", "#NONE!", "f2", "#NONE!"}, {"=MODE(B1:B2)", "#NONE!", "f2:20", "#NONE!"},
		{"", "", "f2:10", ""}, {"=B1", "0", "f2", "0.00"},
	} {
		does(t, d, "put A1 "+c.rest)
		says(t, d, "get A1", c.get)
		says(t, d, "show A1 "+c.format, c.show)
	}
}

// A text that a cell shows is told byte by byte, line ends and all.
func TestTextsOfManyLines(t *testing.T) {
	o := desk.New()
	// No line puts a byte 10: it comes in by bytes.
	does(t, o, "unpack "+fileOf(t, "A1", "'a\nb\x00"))
	says(t, o, "get A1", "a\nb\x00")
	says(t, o, "show A1 f2", "a\nb\x00")
	says(t, o, "typed A1", "a\nb\x00")
	says(t, o, "write", "quadrille 1\nA1 'a\\nb\\x00\nend 1\n")
	says(t, o, "table A1 g0", "\"a\nb\x00\"\n")
}

func TestTyped(t *testing.T) {
	d := deskOf(t, "put A1 'TRUE", "put B1 = sum( a1 , $b$2:C3 )%", "put C1 -0.50")
	says(t, d, "typed A1", "'TRUE")
	says(t, d, "typed b1", "=SUM(A1,$B$2:C3)%")
	says(t, d, "typed $C$1", "-0.5")
	says(t, d, "typed D1", "")
}

// A formula can be brought to where its text is longer than may be typed; its bytes can be told all the same.
func TestTooLongToTell(t *testing.T) {
	s := `"` + strings.Repeat("a", 1000) + `"`
	formula := "=" + s + "&" + s + "&" + s + "&" + s + strings.Repeat("&A1", 20)
	d := deskOf(t, "put B1 "+formula)
	says(t, d, "typed B1", formula)
	does(t, d, "copy B1 IV4000")
	refuses(t, d, "typed IV4000", api.ErrLong, 0)
	refuses(t, d, "write", api.ErrLong, 0)
	packed, bad := d.Do("pack")
	o := deskOf(t, "unpack "+packed)
	if again, _ := o.Do("pack"); bad != (api.Mishap{}) || again != packed {
		t.Errorf("P25.1: pack: error %d", bad.Code)
	}
}

// What is more than a file may have is told by none of them.
func TestTooMuchToTell(t *testing.T) {
	d := deskOf(t, "put A1 "+strings.Repeat("a", api.MaxText), "fill A1 A1:P256")
	says(t, d, "count", "4096")
	refuses(t, d, "write", api.ErrLong, 0)
	refuses(t, d, "pack", api.ErrLong, 0)
	refuses(t, d, "table A1:P256 g0", api.ErrLong, 0)
	says(t, d, "table A256 g0", strings.Repeat("a", api.MaxText)+"\n")
}

func TestUsers(t *testing.T) {
	d := deskOf(t, "put C3 =A1", "put B3 =SUM(A1:A9)", "put IV4096 =$A$1", "put A12 =B3+B3")
	says(t, d, "users A1", "B3 C3 IV4096")
	says(t, d, "users $a$1", "B3 C3 IV4096")
	says(t, d, "users A9", "B3")
	says(t, d, "users B3", "A12")
	says(t, d, "users A12", "")
}

func TestCountAndBounds(t *testing.T) {
	d := deskOf(t, "put C2 1")
	says(t, d, "count", "1")
	says(t, d, "bounds", "C2")
	does(t, d, "put B9 '", "put D3 =A1")
	says(t, d, "count", "3")
	says(t, d, "bounds", "B2:D9")
	does(t, d, "clear A1:IV4096")
	says(t, d, "count", "0")
	says(t, d, "bounds", "")
}

func TestUndoRedoBacks(t *testing.T) {
	d := deskOf(t, "put A1 1", "put A1 2", "put A1 3")
	says(t, d, "backs", "3 0")
	does(t, d, "undo", "undo")
	says(t, d, "get A1", "1")
	says(t, d, "backs", "1 2")
	does(t, d, "redo")
	says(t, d, "get A1", "2")
	says(t, d, "backs", "2 1")
	does(t, d, "put B1 1")
	says(t, d, "backs", "3 0")
	refuses(t, d, "redo", api.ErrBack, 0)
	does(t, d, "undo", "undo", "undo")
	refuses(t, d, "undo", api.ErrBack, 0)
	says(t, d, "backs", "0 3")
	for range 100 {
		does(t, d, "put A1 1", "put A1 2")
	}
	says(t, d, "backs", "64 0")
}

func TestRowsAndCols(t *testing.T) {
	d := deskOf(t, "put A1 1", "put A2 =A1*2", "rows 2 3")
	says(t, d, "typed A5", "=A1*2")
	does(t, d, "rows 1 -1")
	says(t, d, "typed A4", "=#REF!*2")
	does(t, d, "undo", "undo", "cols 1 2")
	says(t, d, "typed C2", "=C1*2")
	does(t, d, "cols 2 -1")
	says(t, d, "typed B2", "=B1*2")
	says(t, d, "bounds", "B1:B2")
	says(t, d, "backs", "4 0")
	does(t, d, "rows 1 0", "cols 256 256", "rows 4096 -4096", "rows 1 -0") // no steps
	says(t, d, "backs", "4 0")
	for _, line := range []string{"rows 0 1", "rows 4097 1", "rows -1 1", "rows 1 4097", "rows 1 -4097", "cols 0 1", "cols 257 1", "cols 1 257", "cols 1 -257", "rows 999999999 1", "rows 1 -999999999"} {
		refuses(t, d, line, api.ErrArg, 0)
	}
	refuses(t, d, "rows 1 4095", api.ErrAddr, 0)
	refuses(t, d, "cols 2 255", api.ErrAddr, 0)
	does(t, d, "rows 1 4094", "cols 2 254")
	says(t, d, "bounds", "IV4095:IV4096")
}

func TestCopyFillMoveClear(t *testing.T) {
	d := deskOf(t, "put A1 1", "put B1 =A1+$A$1", "copy A1:B1 A2")
	says(t, d, "typed B2", "=A2+$A$1")
	does(t, d, "fill B1 C1:C2")
	says(t, d, "typed C2", "=B2+$A$1")
	does(t, d, "move A1 A9")
	says(t, d, "typed B1", "=A9+$A$9")
	says(t, d, "typed B2", "=A2+$A$9")
	does(t, d, "clear B1:C9")
	says(t, d, "write", "quadrille 1\nA2 1\nA9 1\nend 2\n")
	says(t, d, "backs", "6 0")
	does(t, d, "clear B1:C9", "copy A1:A9 A1", "move A1:A9 A1", "fill A2 A2") // no steps
	says(t, d, "backs", "6 0")
	refuses(t, d, "copy A1:B1 IV1", api.ErrAddr, 0)
	refuses(t, d, "copy A1:A2 A4096", api.ErrAddr, 0)
	refuses(t, d, "move A1:B1 IV1", api.ErrAddr, 0)
	// With as many cells as may be one can still be moved, and nothing be added.
	refuses(t, d, "fill A2 A1:P257", api.ErrFull, 0)
	does(t, d, "fill A2 A1:P256")
	refuses(t, d, "copy A1 Q1", api.ErrFull, 0)
	does(t, d, "move A1 Q1", "copy B1:P1 B1", "clear A1:Q256")
}

// What comes of a copy, a fill, a move may be a circle.
func TestCirclesThatAreMoved(t *testing.T) {
	d := deskOf(t, "put A1 =$B$1", "put D1 =SUM(C1:C2)")
	refuses(t, d, "copy A1 B1", api.ErrCycle, 0)
	refuses(t, d, "fill A1 B1:B9", api.ErrCycle, 0)
	refuses(t, d, "move D1 C2", api.ErrCycle, 0)
	refuses(t, d, "put B1 =A1", api.ErrCycle, 0)
	refuses(t, d, "unpack "+fileOf(t, "A1", "=B1", "B1", "=A1"), api.ErrCycle, 0)
	does(t, d, "copy A1 A2", "fill A1 A3:A9", "move D1 C3", "unpack "+fileOf(t, "A1", "=B1", "B1", "=A2"))
}

func TestRow(t *testing.T) {
	d := deskOf(t, `row B2 1,"a ""b""",, x , 2 ,TRUE,#DIV!,=A1,`)
	says(t, d, "write", "quadrille 1\nB2 1\nC2 'a \"b\"\nE2 ' x \nF2 2\nG2 TRUE\nH2 #DIV!\nI2 '=A1\nend 7\n")
	says(t, d, "backs", "1 0")
	does(t, d, "undo")
	says(t, d, "count", "0")
	does(t, d, "row A1", "row A1 ", "row A1 ,,,")
	says(t, d, "backs", "0 1")
	does(t, d, "row A1 "+strings.Repeat("1,", 255)+"1")
	says(t, d, "count", "256")
	does(t, d, "row IV4096 9")
	says(t, d, "get IV4096", "9")
}

func TestTable(t *testing.T) {
	d := deskOf(t, "put A1 1.5", `put B1 a,"b`, "put B2 =A1>1", "put A3 =1/0", "put B3 'TRUE", "put C3 1234")
	says(t, d, "table A1:C3 g0", "1.5,\"a,\"\"b\",\n,TRUE,\n#DIV!,\"TRUE\",1234\n")
	says(t, d, "table C3:A3 f2,", "#DIV!,\"TRUE\",\"1,234.00\"\n")
	says(t, d, "table $A$1 f0:4", "   2\n")
	says(t, d, "table D4 f0:4", "\n")
}

func TestWriteAndPack(t *testing.T) {
	d := deskOf(t, "put A1 1.5", "put B1 =A1+$A$1")
	says(t, d, "write", "quadrille 1\nA1 1.5\nB1 =A1+$A$1\nend 2\n")
	const cells = "514452310200" + "0100010001" + "01000000000000f83f" + "02000100020804" + "05010001000005" + "0100010003"
	packed, bad := d.Do("pack")
	if bad != (api.Mishap{}) || len(packed) != len(cells)+8 || packed[:len(cells)] != cells {
		t.Errorf("P25.1: pack: %s, error %d", packed, bad.Code)
	}
	o := deskOf(t, "put A1 old", "put C9 old", "unpack "+packed)
	says(t, o, "write", "quadrille 1\nA1 1.5\nB1 =A1+$A$1\nend 2\n")
	says(t, o, "get B1", "3")
	does(t, o, "undo")
	says(t, o, "write", "quadrille 1\nA1 'old\nC9 'old\nend 2\n")
	does(t, o, "redo", "unpack "+packed, "unpack "+emptyFile)
	says(t, o, "backs", "4 0")
	says(t, o, "count", "0")
}
