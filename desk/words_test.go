package desk_test

import (
	"strings"
	"testing"

	"quadrille/api"
	"quadrille/desk"
)

// P25.1: lines, their words, and what is wrong with them.

// Of a nil desk every line is ErrArg, ahead of all else.
func TestNilDesk(t *testing.T) {
	var none *desk.Desk
	lines := []string{"", " ", "#", "# x", "x", "get", "get A0", "end", "\n", strings.Repeat("x", api.MaxLine+1), blanks(api.MaxLine + 1)}
	for _, c := range commands() {
		lines = append(lines, c.line)
	}
	for _, line := range lines {
		if got, bad := none.Do(line); got != "" || bad != (api.Mishap{Code: api.ErrArg}) {
			t.Errorf("R1: %s of a nil desk: %q, %+v", short(line), got, bad)
		}
	}
}

// A line without words, or with # as its first byte, does nothing, however long it is, whatever stands in it, and whether the desk gathers or not.
func TestIdleLines(t *testing.T) {
	d := filled(t)
	bothWays(t, d, func() {
		was := state(t, d)
		does(t, d, "", " ", "   ", blanks(api.MaxLine), blanks(api.MaxLine+1), "#", "##", "# put A1 9", "#put A1 9", "#\n", "# a\nput A1 9", "#\xff", "#"+strings.Repeat("x", api.MaxLine-1), "#"+strings.Repeat("x", api.MaxLine), "#"+blanks(70000)+"\n")
		if now := state(t, d); now != was {
			t.Errorf("P25.1: lines that do nothing: %s, not %s", now, was)
		}
	})
}

// With a blank ahead of it # is a word like any other.
func TestNoRemark(t *testing.T) {
	d := filled(t)
	refuses(t, d, " #", api.ErrCommand, 1)
	refuses(t, d, "  # get A1", api.ErrCommand, 2)
	refuses(t, d, "get #", api.ErrForm, 4)
	refuses(t, d, "get A1 # what is there", api.ErrCommand, 7)
	refuses(t, d, " #\n", api.ErrForm, 2)
}

func TestLongLines(t *testing.T) {
	d := filled(t)
	says(t, d, padded("get A1", api.MaxLine), "1")
	says(t, d, blanks(api.MaxLine-6)+"get A1", "1")
	refuses(t, d, padded("get A1", api.MaxLine+1), api.ErrLong, 0)
	refuses(t, d, blanks(api.MaxLine-5)+"get A1", api.ErrLong, 0)
	refuses(t, d, padded("get", api.MaxLine), api.ErrCommand, api.MaxLine)
	refuses(t, d, strings.Repeat("x", api.MaxLine), api.ErrCommand, 0)
	refuses(t, d, strings.Repeat("x", api.MaxLine+1), api.ErrLong, 0)
	refuses(t, d, strings.Repeat("\n", api.MaxLine), api.ErrForm, 0)
	refuses(t, d, strings.Repeat("\n", api.MaxLine+1), api.ErrLong, 0)
	refuses(t, d, "get A1"+blanks(1<<24), api.ErrLong, 0)
	// What stands in one line is at most so much; a number in blanks still is one.
	does(t, d, "put A1 "+blanks(4000)+"7"+blanks(96))
	says(t, d, "typed A1", "7")
	refuses(t, d, "put A1 "+blanks(4000)+"7"+blanks(97), api.ErrLong, 7)
	refuses(t, d, padded("put A1 ", api.MaxLine), api.ErrLong, 7)
	refuses(t, d, padded("row A1 x,", api.MaxLine), api.ErrLong, 9)
	refuses(t, d, "unpack "+strings.Repeat("0", api.MaxLine-8), api.ErrHead, 0)
	refuses(t, d, "unpack "+strings.Repeat("0", api.MaxLine-7), api.ErrForm, 7)
	refuses(t, d, "unpack "+strings.Repeat("0", api.MaxLine-6), api.ErrLong, 0)
	refuses(t, d, "get "+strings.Repeat("A", api.MaxLine-5)+"1", api.ErrAddr, 4)
}

// The longest line can bring in a sheet of as many bytes.
func TestLongestUnpack(t *testing.T) {
	var list []string
	for _, c := range "ABCDEFGHIJKLMNOPQRSTUVWXYZabcde" {
		at := strings.ToUpper(string(c)) + "1"
		if c >= 'a' {
			at = "A" + at
		}
		list = append(list, at, strings.Repeat("x", 1024))
	}
	file := fileOf(t, append(list, "A2", strings.Repeat("x", 754))...)
	if len("unpack "+file) != api.MaxLine-1 { // the number of digits is even
		t.Fatalf("the file has %d digits", len(file))
	}
	d := deskOf(t, "unpack "+file+" ")
	says(t, d, "count", "32")
	says(t, d, "pack", file)
}

// A byte 10 is refused wherever it stands, ahead of what else is wrong.
func TestLineEnds(t *testing.T) {
	d := filled(t)
	for line, at := range map[string]int{"\n": 0, " \n": 1, "get A1\n": 6, "\nget A1": 0, "get\nA1": 3, "get \nA1": 4, "get A1 \n": 7, "put A1 a\nb": 8, "put A1 \n": 7, "put A1\n": 6, "row A1 \"a\nb\"": 9, "no\n such\n": 2, "get A0 B1 \n": 10, "begin\n": 5, "get A1\r\n": 7, "x\n\n\n": 1, padded("get A1\n", api.MaxLine): 6} {
		refuses(t, d, line, api.ErrForm, at)
	}
	for i := range len("put A1 =1") {
		refuses(t, d, "put A1 =1"[:i]+"\n"+"put A1 =1"[i:], api.ErrForm, i)
	}
}

// Words stand between blanks, and no other byte is one.
func TestBlanks(t *testing.T) {
	d := filled(t)
	for _, line := range []string{"get A1", " get A1", "get  A1", "get A1 ", "   get    A1    ", " get A1"} {
		says(t, d, line, "1")
	}
	says(t, d, "  show   A1  f2  ", "1.00")
	says(t, d, "  backs   ", "2 1")
	does(t, d, "   copy   A1:B1    C4   ", "   put    D4 x")
	says(t, d, "typed D4", "x")
	refuses(t, d, "get\tA1", api.ErrCommand, 0)
	refuses(t, d, "\tget A1", api.ErrCommand, 0)
	refuses(t, d, "get\u00a0A1", api.ErrCommand, 0)
	refuses(t, d, "get A1\t", api.ErrForm, 4)
	refuses(t, d, "get \tA1", api.ErrForm, 4)
	refuses(t, d, "get A1\r", api.ErrForm, 4)
	refuses(t, d, "count\x00", api.ErrCommand, 0)
	refuses(t, d, "count \x00", api.ErrCommand, 6)
	refuses(t, d, "backs\r", api.ErrCommand, 0)
	refuses(t, d, "get A1\u2003A2", api.ErrForm, 4)
}

// The REST is all that stands behind the words and one blank.
func TestRest(t *testing.T) {
	d := desk.New()
	for _, c := range []struct{ line, typed string }{
		{"put A1 x", "x"}, {"put A1  x", " x"}, {"put A1   x ", "  x "}, {"put A1 x  ", "x  "}, {"   put    A1 x", "x"}, {"  put  A1  x", " x"}, {"put A1   ", "  "}, {"put A1  ", " "}, {"put A1 ", ""}, {"put A1", ""}, {" put  A1", ""},
		{"put A1  5 ", "5"}, {"put A1 =1 + 1 ", "=1+1"}, {"put A1  =1", " =1"}, {"put A1 put A1 x", "put A1 x"}, {"put A1 # x", "# x"}, {"put A1 \t", "\t"}, {"put A1 A2 A3 A4", "A2 A3 A4"}, {"put A1 '  ", "  "}, {"put A1 ' 5", "' 5"},
	} {
		does(t, d, "put A1 old", c.line)
		says(t, d, "typed A1", c.typed)
	}
	for _, c := range []struct{ line, typed string }{
		{"row A1 x", "x"}, {"row A1  x ", " x "}, {"row A1  5 ", "5"}, {"row A1   ", "  "}, {"row A1 ", "old"}, {"row A1", "old"}, {"  row   A1 1 2 3", "1 2 3"}, {"row A1 # x", "# x"},
	} {
		does(t, d, "put A1 old", c.line)
		says(t, d, "typed A1", c.typed)
	}
}

// Without its words a command is refused at the line's end; with too many at the first of these.
func TestWordsMissingAndTooMany(t *testing.T) {
	for _, c := range commands() {
		d := filled(t)
		bothWays(t, d, func() {
			words := strings.Fields(c.line)
			for n := 1; n <= c.words; n++ {
				line := strings.Join(words[:n], " ")
				for _, line := range []string{line, line + " ", line + "   ", "  " + line} {
					refuses(t, d, line, api.ErrCommand, len(line))
				}
			}
			if !c.rest {
				refuses(t, d, c.line+" x", api.ErrCommand, len(c.line)+1)
				refuses(t, d, c.line+"   A1 B1", api.ErrCommand, len(c.line)+3)
				refuses(t, d, "  "+c.line+" #", api.ErrCommand, len(c.line)+3)
				refuses(t, d, c.line+" -", api.ErrCommand, len(c.line)+1)
			}
		})
	}
}

func TestNoCommands(t *testing.T) {
	names := map[string]struct{}{}
	for _, c := range commands() {
		names[c.name] = struct{}{}
	}
	d := filled(t)
	for _, c := range commands() {
		behind := c.line[len(c.name):]
		for _, name := range []string{strings.ToUpper(c.name), strings.ToUpper(c.name[:1]) + c.name[1:], c.name[:len(c.name)-1], c.name[1:], c.name + "s", c.name + "x", c.name + ".", "x" + c.name, c.name + "\x00", c.name + "\t", "'" + c.name, "-" + c.name, c.name + c.name, c.name[:1]} {
			if _, is := names[name]; is {
				continue // row and rows
			}
			refuses(t, d, name+behind, api.ErrCommand, 0)
			refuses(t, d, "  "+name+behind, api.ErrCommand, 2)
			refuses(t, d, name, api.ErrCommand, 0)
		}
	}
	for _, line := range []string{"quit", "help", "A1", "=1", "7", "get,A1", "put=A1", "\xff", "é", "set A1 1", "begin,end", "end;", "\"get\" A1", "format A1 f2"} {
		refuses(t, d, line, api.ErrCommand, 0)
	}
}

// What is fixed in a CELL or an AREA counts for nothing; their letters may be small.
func TestCellsAndAreas(t *testing.T) {
	d := filled(t)
	for _, cell := range []string{"A1", "a1", "$A1", "A$1", "$A$1", "$a$1"} {
		says(t, d, "get "+cell, "1")
		says(t, d, "show "+cell+" f1", "1.0")
		says(t, d, "users "+cell, "A2")
		says(t, d, "table "+cell+" g0", "1\n")
		for _, other := range []string{"B2", "b$2", "$B$2"} {
			for _, area := range []string{cell + ":" + other, other + ":" + cell} {
				says(t, d, "table "+area+" g0", "1,x\n2,\n")
			}
		}
	}
	does(t, d, "put $iv$4096 1", "copy $A$1:$B$1 $c$5", "fill $a$1 $d$9:$c$8", "move c5:d5 $E$5", "empty $E5", "clear f$5:$F$5")
	says(t, d, "write", "quadrille 1\nA1 1\nB1 'x\nA2 =A1*2\nC8 1\nD8 1\nC9 1\nD9 1\nIV4096 1\nend 8\n")
}

// A CELL, an AREA, a FORMAT that is none: its call's error, at the word.
func TestNoCellsAreasFormats(t *testing.T) {
	d := filled(t)
	cells := map[string]api.Errno{"A0": api.ErrForm, "A": api.ErrForm, "1": api.ErrForm, "A01": api.ErrForm, "A1:A1": api.ErrForm, "A1,": api.ErrForm, "A-1": api.ErrForm, "$$A1": api.ErrForm, "R1C1": api.ErrForm, "é1": api.ErrForm, "-": api.ErrForm, "IW1": api.ErrAddr, "A4097": api.ErrAddr, "$ZZZ$1": api.ErrAddr, "A99999999999999999999": api.ErrAddr}
	areas := map[string]api.Errno{"A0": api.ErrForm, "A1:": api.ErrForm, ":A1": api.ErrForm, ":": api.ErrForm, "A1:B2:C3": api.ErrForm, "A1-B2": api.ErrForm, "A1:B0": api.ErrForm, "A0:IW1": api.ErrForm, "IW1:A0": api.ErrForm, "IW1": api.ErrAddr, "A1:IW1": api.ErrAddr, "A4097:A1": api.ErrAddr}
	formats := map[string]api.Errno{"f": api.ErrForm, "F2": api.ErrForm, "f31": api.ErrForm, "f02": api.ErrForm, "2f": api.ErrForm, "q4": api.ErrForm, "q0": api.ErrForm, "s1,": api.ErrForm, "f2:0": api.ErrForm, "f2:65": api.ErrForm, "-": api.ErrForm, "0.00": api.ErrForm, "g": api.ErrForm, "f-1": api.ErrForm}
	bothWays(t, d, func() {
		for cell, err := range cells {
			for _, name := range []string{"put", "empty", "get", "typed", "users", "row"} {
				refuses(t, d, name+" "+cell, err, len(name)+1)
				refuses(t, d, "  "+name+"  "+cell+"  ", err, len(name)+4)
			}
			for _, name := range []string{"put", "row"} {
				refuses(t, d, name+" "+cell+" x", err, len(name)+1)
				refuses(t, d, name+" "+cell+" \"", err, len(name)+1)
			}
			refuses(t, d, "show "+cell+" f2", err, 5)
			refuses(t, d, "show "+cell+" f", err, 5)
			refuses(t, d, "copy A1:B1  "+cell, err, 12)
			refuses(t, d, "move A1:B1  "+cell, err, 12)
			refuses(t, d, "fill "+cell+" A1", err, 5)
			refuses(t, d, "fill "+cell+" A0", err, 5)
		}
		for area, err := range areas {
			refuses(t, d, "copy "+area+" A1", err, 5)
			refuses(t, d, "move "+area+" A0", err, 5)
			refuses(t, d, "fill A1 "+area, err, 8)
			refuses(t, d, "clear   "+area, err, 8)
			refuses(t, d, "table "+area+" g0", err, 6)
			refuses(t, d, "table "+area+" g", err, 6)
		}
		for format, err := range formats {
			refuses(t, d, "show A1 "+format, err, 8)
			refuses(t, d, " show  A9  "+format+" ", err, 11)
			refuses(t, d, "table A1:B2 "+format, err, 12)
		}
	})
}

func TestNumbers(t *testing.T) {
	d := deskOf(t, "put A1 1")
	for word, want := range map[string]string{"1": "A2", "01": "A2", "000000001": "A2", "9": "A10", "12": "A13", "123": "A124", "0004095": "A4096", "0": "A1", "-0": "A1", "-000000000": "A1", "000000000": "A1", "-1": "", "-000000001": "", "-4096": ""} {
		does(t, d, "rows 1 "+word)
		says(t, d, "bounds", want)
		if want != "A1" {
			does(t, d, "undo")
		}
	}
	for _, word := range []string{"123456", "1234567", "12345678", "123456789", "-123456789", "999999999", "-999999999"} {
		refuses(t, d, "rows 1 "+word, api.ErrArg, 0)
		refuses(t, d, "cols "+word+" 1", api.ErrArg, 0)
	}
	bothWays(t, d, func() {
		for _, word := range []string{"1234567890", "-1234567890", "0000000001", "0000000000", "+1", "--1", "-", "+", "1-", "1.0", "1e1", "0x1", "1_0", "1,", "x", "'1", "١", "-x", "=1", strings.Repeat("9", 30000)} {
			for _, name := range []string{"rows", "cols"} {
				refuses(t, d, name+" "+word+" 1", api.ErrForm, 5)
				refuses(t, d, name+" 1 "+word, api.ErrForm, 7)
				refuses(t, d, name+" "+word+" "+word, api.ErrForm, 5)
				refuses(t, d, "  "+name+"   "+word+" x ", api.ErrForm, 9)
			}
		}
	})
}

func TestHex(t *testing.T) {
	d := filled(t)
	bothWays(t, d, func() {
		for _, word := range []string{"0", "000", "A0", "a0F0", "g0", "0g", "x", "xx", "0x00", "--", "-0", "-00", "+00", "00-", "é", "0\t", ".0", strings.ToUpper(emptyFile), emptyFile + "0", emptyFile[1:], "/0", ":0", "`0", "0G", "@0"} {
			refuses(t, d, "unpack "+word, api.ErrForm, 7)
			refuses(t, d, "  unpack   "+word+"  ", api.ErrForm, 11)
		}
	})
	refuses(t, d, "unpack -", api.ErrHead, 0)
	refuses(t, d, "unpack 00", api.ErrHead, 0)
	refuses(t, d, "unpack 51445231", api.ErrForm, 0)
	refuses(t, d, "unpack "+emptyFile[:len(emptyFile)-1]+"e", api.ErrSum, 0)
	refuses(t, d, "unpack "+emptyFile+"00", api.ErrSum, 0)
	does(t, d, "unpack "+emptyFile)
	says(t, d, "pack", emptyFile)
	// Every byte goes there and back.
	var all []byte
	for b := range 256 {
		all = append(all, string(rune(b))...)
	}
	file := fileOf(t, "B2", "'"+string(all))
	does(t, d, "unpack "+file)
	says(t, d, "get B2", string(all))
	says(t, d, "pack", file)
}

// Of several mishaps the first one of the promise's list is told, and of words the first one.
func TestOrderOfMishaps(t *testing.T) {
	d := deskOf(t, "put A1 1", "begin")
	long := strings.Repeat("x", api.MaxLine)
	for _, c := range []struct {
		line string
		code api.Errno
		at   int
	}{
		{"get A0\n" + long, api.ErrLong, 0}, {"nothing\n", api.ErrForm, 7}, {"nothing A0 x", api.ErrCommand, 0}, {"rows x", api.ErrCommand, 6}, {"rows x y z", api.ErrCommand, 9}, {"copy x", api.ErrCommand, 6}, {"unpack x y", api.ErrCommand, 9},
		{"rows x 1", api.ErrForm, 5}, {"rows x y", api.ErrForm, 5}, {"copy IW1 A0", api.ErrAddr, 5}, {"copy A1 A0", api.ErrForm, 8}, {"fill IW1 A0", api.ErrAddr, 5}, {"begin x", api.ErrCommand, 6}, {"undo x", api.ErrCommand, 5}, {"unpack 0", api.ErrForm, 7},
		{"rows 0 0", api.ErrBack, 0}, {"cols 1 999", api.ErrBack, 0}, {"copy A1:B1 IV1", api.ErrBack, 0}, {"fill A1 A1:IV4096", api.ErrBack, 0}, {"move A1:B1 IV1", api.ErrBack, 0}, {"clear A1", api.ErrBack, 0}, {"row A1 \"", api.ErrBack, 0}, {"row IV1 1,2", api.ErrBack, 0}, {"unpack -", api.ErrBack, 0}, {"unpack 00", api.ErrBack, 0}, {"undo", api.ErrBack, 0}, {"redo", api.ErrBack, 0}, {"begin", api.ErrBack, 0},
		{"put A0 =", api.ErrForm, 4}, {"put IW1 =", api.ErrAddr, 4}, {"put A1 =", api.ErrEnd, 8}, {"end x", api.ErrCommand, 4}, {"drop  x", api.ErrCommand, 6},
	} {
		refuses(t, d, c.line, c.code, c.at)
	}
	does(t, d, "drop")
	refuses(t, d, "end x", api.ErrCommand, 4)
	refuses(t, d, "drop x", api.ErrCommand, 5)
	refuses(t, d, " end", api.ErrBack, 0)
	refuses(t, d, "   drop ", api.ErrBack, 0)
}

// What lines.Entry and lines.Numbers refuse stands at its place from the REST's first byte on.
func TestPlacesInTheRest(t *testing.T) {
	d := filled(t)
	long := strings.Repeat("a", api.MaxText+1)
	gathers := false
	bothWays(t, d, func() {
		for _, c := range []struct {
			line string
			code api.Errno
			at   int
		}{
			{"put A1 =", api.ErrEnd, 8}, {"put A1 =1+", api.ErrEnd, 10}, {"  put   A1 =1+", api.ErrEnd, 14}, {"put A1 = 1 +  ", api.ErrEnd, 14}, {"put A1 =foo(1)", api.ErrName, 8}, {"put A1 =1+foo(1)", api.ErrName, 10}, {"put $A$1 =1 ?", api.ErrWord, 12}, {"put A1 =)", api.ErrSyntax, 8}, {"put A1 =SQRT(1,2)", api.ErrCount, 8}, {"put A1 =IW1", api.ErrName, 8}, {"put A1 =A1 A2", api.ErrSyntax, 11},
			{"put A1 \xff", api.ErrForm, 7}, {"put A1 '\xff", api.ErrForm, 7}, {"put A1  \xff", api.ErrForm, 7}, {"put A1 abc\xff", api.ErrForm, 7}, {"put A1 " + long, api.ErrLong, 7}, {" put A1 '" + long, api.ErrLong, 8}, {"put IV4096   " + long, api.ErrLong, 11}, {"put A1 =" + strings.Repeat("1", api.MaxFormula+1), api.ErrLong, 7},
			{"row A1 \"", api.ErrForm, 7}, {"row A1 1,\"b\"c", api.ErrForm, 9}, {"  row   A1 1,\"", api.ErrForm, 13}, {"row A1  \xff", api.ErrForm, 7}, {"row A1 1, \xff", api.ErrForm, 9}, {"row IV1 1,2", api.ErrAddr, 10}, {"row IU4096 1, 2 ,3", api.ErrAddr, 17}, {"row A1 1," + long, api.ErrLong, 9}, {"row A1 " + strings.Repeat("1,", 256) + "1", api.ErrAddr, 519},
		} {
			if gathers && strings.Contains(c.line, "row") {
				c.code, c.at = api.ErrBack, 0
			}
			refuses(t, d, c.line, c.code, c.at)
		}
		gathers = true
	})
}
