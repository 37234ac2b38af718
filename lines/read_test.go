package lines_test

import (
	"fmt"
	"strings"
	"testing"

	"quadrille/api"
	"quadrille/grid"
	"quadrille/lines"
)

// P23.4: lines as a sheet.

func TestReadHead(t *testing.T) {
	for i := range head {
		noRead(t, head[:i], api.ErrHead, 1)
		noRead(t, head[:i]+"end 0\n", api.ErrHead, 1)
		noRead(t, head[:i]+head[i+1:]+"end 0\n", api.ErrHead, 1)
		noRead(t, head[:i]+"x"+head[i:]+"end 0\n", api.ErrHead, 1)
	}
	for _, s := range []string{"\n", "end 0\n", " quadrille 1\nend 0\n", "quadrille 1 \nend 0\n", "quadrille  1\nend 0\n", "quadrille 01\nend 0\n", "quadrille 2\nend 0\n", "quadrille 10\nend 0\n", "Quadrille 1\nend 0\n", "quadrille 1\r\nend 0\n", "quadrille 1\x00\nend 0\n", "\ufeffquadrille 1\nend 0\n", "quadrille 1\r", "quadrille 1A1 1\nend 1\n", "\nquadrille 1\nend 0\n", strings.Repeat("x", api.MaxFile)} {
		noRead(t, s, api.ErrHead, 1)
	}
	noRead(t, strings.Repeat("x", api.MaxFile+1), api.ErrLong, 0)
	noRead(t, head+strings.Repeat("\n", api.MaxFile-11), api.ErrLong, 0)
	noRead(t, head+strings.Repeat("\n", api.MaxFile-12), api.ErrAddr, 2)
}

func TestReadEnd(t *testing.T) {
	body := ""
	for count := range 12 {
		for said := range 13 {
			if s := head + body + fmt.Sprintf("end %d\n", said); said != count {
				noRead(t, s, api.ErrForm, count+2)
			} else if g, bad := lines.Read(s); bad != (api.Mishap{}) || g.Len() != count {
				t.Errorf("P23.4: Read(%q): error %d at %d", s, bad.Code, bad.At)
			}
		}
		last := fmt.Sprintf("end %d", count)
		for _, end := range []string{"", last, "end\n", "end \n", "end", "e", "end " + last[4:] + " \n", "end  " + last[4:] + "\n", "end\t" + last[4:] + "\n", "end 0" + last[4:] + "\n", "end +" + last[4:] + "\n", last + "\r\n", last + "x\n", last + ".0\n", "end" + last[4:] + "\n", last + "\n\n", last + "\nx", last + "\n" + last + "\n", last + "\n ", last + "\nZ9 1\nend 1\n", "ends\n", "end one\n", "end -1\n", "end" + last + "\n", "end 99999999999999999999\n", "endA9 1\nend 1\n"} {
			noRead(t, head+body+end, api.ErrForm, count+2)
		}
		for _, end := range []string{" " + last + "\n", "End " + last[4:] + "\n", "END " + last[4:] + "\n", "en " + last[4:] + "\n", "\n", "\n" + last + "\n", "e\n", " \n", "0\n"} {
			noRead(t, head+body+end, api.ErrAddr, count+2)
		}
		body += fmt.Sprintf("A%d 1\n", count+1)
	}
}

func TestReadCells(t *testing.T) {
	for _, name := range []string{"A1", "Z9", "AA10", "AZ99", "BA100", "IV4096", "IV1", "A4096", "HZ999"} {
		writes(t, gridOf(name, num(1)), head+name+" 1\nend 1\n")
	}
	for _, name := range []string{"", "A", "1", "A0", "A01", "A1.", "a1", "iV1", "Iv1", "$A1", "A$1", "$A$1", "$", "A-1", "A+1", "A1:A1", "A1:B2", "IW1", "JA1", "ZZ1", "AAA1", "A4097", "A5000", "A99999999999999999999", "AAAAAAAAAAAAAAAAAAAAAAAAAAAAAAAA1", "1A", "A1A", "R1C1", "\tA1", "A1\t", "A\x001", "É1", "A１", "'A1", "=A1", "\"A1\"", "EN1D", "END", "END1", "Aend 1", "A1,"} {
		noLine(t, name+" 1", api.ErrAddr)
		noLine(t, name+" ", api.ErrAddr)
		if name != "Aend 1" {
			noLine(t, name, api.ErrAddr)
			noLine(t, name+"\x00", api.ErrAddr)
		}
	}
	noLine(t, " A1 1", api.ErrAddr)
	noLine(t, "A1\t1", api.ErrAddr)
	noLine(t, "A1\u00a01", api.ErrAddr)
	noLine(t, "A1=1", api.ErrAddr)
	noLine(t, "A1\r", api.ErrAddr)
	// A cell, and nothing behind it that may be.
	for _, line := range []string{"A1", "A1 ", "A1  ", "A1  1", "A1 1 ", "A1 1\r", "A1 1\t"} {
		noLine(t, line, api.ErrForm)
	}
}

func TestReadOrder(t *testing.T) {
	three := head + "B1 1\nA2 2\nC2 3\n"
	noRead(t, three+"B1 1\nend 4\n", api.ErrTwice, 5)
	noRead(t, three+"A2 2\nend 4\n", api.ErrTwice, 5)
	noRead(t, three+"C2 3\nend 4\n", api.ErrTwice, 5)
	for _, name := range []string{"A1", "C1", "IV1", "B2"} {
		noRead(t, three+name+" 1\nend 4\n", api.ErrForm, 5)
		noRead(t, three+name+" x\nend 4\n", api.ErrForm, 5)
	}
	for _, name := range []string{"D2", "IV2", "A3", "B3", "A4096"} {
		if g, bad := lines.Read(three + name + " 4\nend 4\n"); bad != (api.Mishap{}) || g.Len() != 4 {
			t.Errorf("P23.4: %s behind C2: error %d at %d", name, bad.Code, bad.At)
		}
	}
	// ErrTwice and ErrForm come ahead of what the content is.
	noRead(t, three+"B1 =1+\nend 4\n", api.ErrTwice, 5)
	noRead(t, three+"B1\nend 4\n", api.ErrTwice, 5)
	noRead(t, three+"A1 =1+\nend 4\n", api.ErrForm, 5)
	noRead(t, three+"A1 =foo\nend 4\n", api.ErrForm, 5)
	noRead(t, three+"b1 1\nend 4\n", api.ErrAddr, 5)
	// Ahead of all, that a byte 10 ends the line.
	for _, line := range []string{"b1 1", "B1 1", "A1 1", "D2 =1+", "D2 1", "end 3", ""} {
		noRead(t, three+line, api.ErrForm, 5)
	}
	// The first mishap of several.
	noRead(t, head+"A1 1\nA2 =foo\nA2 1\nb 1\nend 7\nx", api.ErrName, 3)
	noRead(t, head+"A1 1\nA1 =foo\nA2 1\nb 1\nend 7\nx", api.ErrTwice, 3)
	noRead(t, head+"A1 1\nA2 1\nb 1\nend 7\nx", api.ErrAddr, 4)
	noRead(t, head+"A1 1\nA2 1\nend 7\nx", api.ErrForm, 4)
	noRead(t, "quadrille\nA1 =foo", api.ErrHead, 1)
}

func TestReadFull(t *testing.T) {
	var b strings.Builder
	b.WriteString(head)
	g := grid.New()
	for row := 1; row <= 4096; row++ {
		fmt.Fprintf(&b, "B%d 1\n", row)
		put(g, xy(2, row), num(1))
	}
	writes(t, g, b.String()+"end 4096\n")
	for line, want := range map[string]api.Errno{"C4096 1": api.ErrFull, "C4096 =1+": api.ErrFull, "C4096": api.ErrFull, "IV4096 x": api.ErrFull, "B4096 1": api.ErrTwice, "B1 1": api.ErrTwice, "A4096 1": api.ErrForm, "C1 1": api.ErrForm, "A4097 1": api.ErrAddr, "end 4097": api.ErrForm, "end 4095": api.ErrForm} {
		noRead(t, b.String()+line+"\nend 4097\n", want, 4098)
	}
	noRead(t, b.String()+"C4096 1", api.ErrForm, 4098)
	noRead(t, b.String(), api.ErrForm, 4098)
}

// Contents that are not as a line has them.
func TestReadContents(t *testing.T) {
	for _, s := range []string{
		"0.10", "01", "+1", "1.", ".5", "1.0", "1e0", "1e3", "1E21", "1e+21", "1e021", "1000000000000000000000", "10e20", "1.0e21", "0.00000001", "1e-08", "1e-7", "0x10", "0x1p0", "-0.0", "-00", "+0", "0.1000000000000000055511151231257827021181583404541015625", "0.10000000000000001", "9007199254740993", "5e-325", "1e999", "-1e999", "1e-999", "4.9e-324", "100000000000000000001",
		"nan", "+NaN", "-NaN", "inf", "+Inf", "INF", "true", "True", "false", "TRUE ", "TRUEX", "TRU", "#div!", "#Ref!", "#REF", "#REF!!", "#N/A", "x", "abc", "A1", "\"a\"", "é", "\xff", "-", "\\", "\\n", "end 1", strings.Repeat("1", 8192), strings.Repeat("1", 8193), strings.Repeat("x", 1<<20),
	} {
		noLine(t, "A1 "+s, api.ErrForm)
	}
	for s, want := range map[string]api.Errno{
		"=": api.ErrEnd, "=1+": api.ErrEnd, "=(1": api.ErrEnd, "= ": api.ErrEnd, "=1 2": api.ErrSyntax, "==1": api.ErrSyntax, "=A1:B2": api.ErrSyntax, "=foo": api.ErrName, "=SQRT()": api.ErrCount, "=@": api.ErrWord, "=\xff": api.ErrWord, "=\"a": api.ErrEnd, "='a": api.ErrWord,
		"=" + strings.Repeat("-", 32) + "1": api.ErrDeep, "=SUM(" + strings.Repeat("1,", 255) + "1)": api.ErrMany, "=" + strings.Repeat(" ", 4096) + "1": api.ErrLong, "=" + strings.Repeat("\\n", 4097): api.ErrLong, `=\\`: api.ErrWord, `=1\n2`: api.ErrSyntax, `=1\n+2`: api.ErrForm,
		// Read as a formula, but not as it is written.
		"=a1": api.ErrForm, "=1 +2": api.ErrForm, "= 1": api.ErrForm, "=1 ": api.ErrForm, "=(1)": api.ErrForm, "=1+(2*3)": api.ErrForm, "=sum(A1)": api.ErrForm, "=SUM(B2:A1)": api.ErrForm, "=true": api.ErrForm, "=#ref!": api.ErrForm, "=1.0": api.ErrForm, "=0x10": api.ErrForm, "=$a$1": api.ErrForm, "=1e3": api.ErrForm, "=SUM(A1, B1)": api.ErrForm, "=2^(3)": api.ErrForm,
		// No escaped text at all: what it would be read as is not asked for.
		`=\x41(`: api.ErrForm, `=\`: api.ErrForm, `=1+\`: api.ErrForm, "=1+\t": api.ErrForm, "=\x00": api.ErrForm, "=\x7f": api.ErrForm, `=foo\x`: api.ErrForm, `=\x0A`: api.ErrForm, `=\x0a`: api.ErrForm, `=\N`: api.ErrForm, "=1+\r": api.ErrForm,
		`="\x41"`: api.ErrForm, "=\"\t\"": api.ErrForm,
	} {
		noLine(t, "A1 "+s, want)
	}
	// Too long when it is written, though it isn't as it stands here: 1e20 is written with 21 digits.
	s := "=SUM(" + strings.Repeat("1e20,", 194) + "1e20)"
	noLine(t, "A1 "+s, api.ErrForm)
	one := strings.Repeat("x", 1024)
	writes(t, gridOf("A1", text(one)), head+"A1 '"+one+"\nend 1\n")
	writes(t, gridOf("A1", text(strings.Repeat("\\", 1024))), head+"A1 '"+strings.Repeat("\\\\", 1024)+"\nend 1\n")
	for _, s := range []string{one + "x", one + "\\n", strings.Repeat("\\\\", 1025), strings.Repeat("\\n", 1025), strings.Repeat("é", 513), "\xff", "a\xc3", "\xed\xa0\x80", "\xc0\x80", "é\xa9"} {
		noLine(t, "A1 '"+s, api.ErrForm)
	}
}

// Bytes escaped in any other way than the document has it, in a text and in a formula's text.
func TestReadEscapes(t *testing.T) {
	taken := 0
	held := func(in string, want byte, is bool) {
		t.Helper()
		for _, around := range [][2]string{{"", ""}, {"a", "b"}, {"\\\\", "0"}, {"\\n", "n"}} {
			s := around[0] + in + around[1]
			if !is {
				noLine(t, "A1 '"+s, api.ErrForm)
				noLine(t, "A1 =\""+s+"\"", api.ErrForm)
				continue
			}
			taken++
			plain := strings.NewReplacer("\\\\", "\\", "\\n", "\n").Replace(around[0]) + string([]byte{want}) + around[1]
			writes(t, gridOf("A1", text(plain)), head+"A1 '"+s+"\nend 1\n")
		}
	}
	for b := range 256 {
		raw := string([]byte{byte(b)})
		if b != '\n' && b != '\\' {
			held(raw, byte(b), b < 128 && b >= 32 && b != 127)
		}
		// As two digits: of those bytes alone that need it.
		small, great := fmt.Sprintf("\\x%02x", b), fmt.Sprintf("\\x%02X", b)
		held(small, byte(b), (b < 32 || b == 127) && b != 10)
		if great != small {
			held(great, byte(b), false)
		}
		// Behind a backslash: but for the backslash itself and n none may stand.
		switch b {
		case '\n', 'x':
		case '\\':
			held(`\\`, '\\', true)
		case 'n':
			held(`\n`, '\n', true)
		default:
			held("\\"+raw, 0, false)
		}
	}
	if taken != 4*(95-1+31+1+2) {
		t.Errorf("P23.4: %d escapes were taken", taken)
	}
	for _, s := range []string{`\`, `a\`, `\x`, `\x0`, `\x1`, `\x7`, `\xg0`, `\x0g`, `\x 1`, `\x1 `, `\x-1`, `\x+1`, `\x_1`, `\x1_`, `\x0x`, `\X01`, `\u0001`, `\001`, `\t`, `\r`, `\0`, `\'`, `\"`, `\=`, `\N`, `\\\`, `\n\`, `\é`} {
		noLine(t, "A1 '"+s, api.ErrForm)
		noLine(t, "A1 ="+s, api.ErrForm)
	}
}
