package lines_test

import (
	"strings"
	"testing"

	"quadrille/api"
	"quadrille/lines"
)

// P23.6: a table read.

func TestNumbersRows(t *testing.T) {
	for _, s := range []string{"", "\n", "\r\n", "\n\n\n", "\r\n\r\n", ",", ",,,\n,,\n", ",\r\n,,\r\n", strings.Repeat(",", 1000), strings.Repeat("\n", 10000)} {
		reads(t, s, "B2")
	}
	one, two := num(1), num(2)
	for _, s := range []string{"1,2", "1,2\n", "1,2\r\n", "1,2,", "1,2,\n", "1,2,,,\r\n", "1,2\n\n\n", "1,2\n,,\n"} {
		reads(t, s, "B2", "B2", one, "C2", two)
	}
	for _, s := range []string{"1\n2", "1\n2\n", "1\r\n2\r\n", "1,\n2,,", "1\r\n2\n\n"} {
		reads(t, s, "B2", "B2", one, "B3", two)
	}
	reads(t, "\n1\n\n,2\n\n", "A1", "A2", one, "B4", two)
	reads(t, "\n\n 7 \r\n\"7\"", "B2", "B4", num(7), "B5", text("7"))
	reads(t, ",1\r\n,,2\r\n,,,1", "C3", "D3", one, "E4", two, "F5", one)
	reads(t, "1,\"a \"\"b\"\"\",,x", "B2", "B2", one, "C2", text(`a "b"`), "E2", text("x"))
	// One byte 13 belongs to a row's end, where it stands right ahead of the byte 10; each other one is the field's own.
	reads(t, "a\r", "A1", "A1", text("a\r"))
	reads(t, "a\rb", "A1", "A1", text("a\rb"))
	reads(t, "a\r\r\nb", "A1", "A1", text("a\r"), "A2", text("b"))
	reads(t, "\r\r\n1", "A1", "A1", text("\r"), "A2", one)
	reads(t, "\r", "A1", "A1", text("\r"))
	reads(t, "\r,1\r\n", "A1", "A1", text("\r"), "B1", one)
	reads(t, "1\r,2\n", "A1", "A1", text("1\r"), "B1", two)
	reads(t, "\n\r1", "A1", "A2", text("\r1"))
	reads(t, "1,\r\n2", "A1", "A1", one, "A2", two)
	reads(t, "\"1\"\r\n2", "A1", "A1", text("1"), "A2", two)
	reads(t, "\"\r\n\"\r\n2", "A1", "A1", text("\r\n"), "A2", two)
}

func TestNumbersFields(t *testing.T) {
	for w, c := range words() {
		for _, blanks := range []string{"", " ", "    "} {
			reads(t, blanks+w+blanks, "A1", "A1", c)
			reads(t, "x,"+w+blanks+",y\r\n"+blanks+w+"\r\n", "B2", "B2", text("x"), "C2", c, "D2", text("y"), "B3", c)
			reads(t, `"`+blanks+w+blanks+`"`, "A1", "A1", text(blanks+w+blanks))
		}
		reads(t, "\t"+w, "A1", "A1", text("\t"+w))
		reads(t, w+"\u00a0", "A1", "A1", text(w+"\u00a0"))
		reads(t, "'"+w, "A1", "A1", text("'"+w))
		reads(t, "="+w, "A1", "A1", text("="+w))
		reads(t, ` "`+w+`"`, "A1", "A1", text(` "`+w+`"`))
	}
	for _, s := range asText() {
		if !strings.ContainsAny(s, "\",\n") {
			reads(t, s, "A1", "A1", text(s))
			reads(t, "5,"+s+",6\n", "A1", "A1", num(5), "B1", text(s), "C1", num(6))
		}
		quoted := `"` + strings.ReplaceAll(s, `"`, `""`) + `"`
		reads(t, quoted, "A1", "A1", text(s))
		reads(t, quoted+","+quoted+"\r\n"+quoted+"\n", "A1", "A1", text(s), "B1", text(s), "A2", text(s))
	}
	for _, s := range []string{" ", "   ", "'", "=", "=A1", "=1+", "==", "'5", "''", `x"y`, `x"`, `x""`, ` "a"`, ` "`, `'"a"`, "a;b", "\x00", "\x7f", "\x0b", "\\n", `\x41`, "end 1", "quadrille 1"} {
		reads(t, s, "A1", "A1", text(s))
		reads(t, "1,"+s+"\r\n2", "A1", "A1", num(1), "B1", text(s), "A2", num(2))
	}
	for s, want := range map[string]string{`""`: "", `""""`: `"`, `""""""`: `""`, `"a"`: "a", `" "`: " ", `" a "`: " a ", `","`: ",", "\"\n\"": "\n", "\"\r\n,\"": "\r\n,", `"5"`: "5", `"TRUE"`: "TRUE", `"#REF!"`: "#REF!", `"=A1"`: "=A1", `"a""b"`: `a"b`, `"a"""`: `a"`, `"""a"`: `"a`, `"a"",""b"`: `a","b`, "\"a\"\"\n\"\"b\"": "a\"\n\"b"} {
		for _, behind := range []string{"", ",", "\n", "\r\n", ",,\r\n\n"} {
			reads(t, s+behind, "A1", "A1", text(want))
			reads(t, ","+s+behind, "A1", "B1", text(want))
		}
		reads(t, s+","+s+"\n"+s, "A1", "A1", text(want), "B1", text(want), "A2", text(want))
	}
	reads(t, `a"b,c"d`, "A1", "A1", text(`a"b`), "B1", text(`c"d`))
}

// Quotes that don't end, or with something behind them; texts that are no right UTF-8; texts too long.
func TestNumbersForm(t *testing.T) {
	at := cell("A1")
	for _, s := range []string{`"`, `"a`, `"""`, `"a""`, `"a"b`, `"a" `, `"a" ,1`, "\"a\"\t", "\"a\"\r", "\"a\"\r,1", "\"a\"\r\r\n", `"a"'`, `"" ""`, `"a,b`, "\"a\nb", "\"a\n\n\n1,2\n", `"a"x"`, `""a""`, "\"a\"\x00\n", "\"a\"\xff", "\"\xff\"", "\"a\xc3\"", "\xff", "a\xff", " \xff", "5\xff", "a\xc3", "\xc3,\xa9", "\xed\xa0\x80", "TRUE\x80", "\"\xc3\"\"\xa9\"", "\xc3\r\n"} {
		for _, ahead := range []string{"", "1,", ",,", "1,2\n", "\"a\"\"\n\",", "\r\n", "1\r\n", "é,", "\"x\"\r\n,"} {
			noReads(t, ahead+s, at, api.ErrForm, len(ahead))
		}
	}
	one := strings.Repeat("x", 1024)
	quotes := strings.Repeat(`"`, 2048)
	reads(t, one+",\""+one+"\","+one[:1022]+"é\n", "A1", "A1", text(one), "B1", text(one), "C1", text(one[:1022]+"é"))
	reads(t, `"`+quotes+`"`, "A1", "A1", text(quotes[:1024]))
	reads(t, strings.Repeat(" ", 100000)+"5"+strings.Repeat(" ", 1000), "A1", "A1", num(5))
	reads(t, strings.Repeat("0", 8191)+"5", "A1", "A1", num(5))
	reads(t, "-0."+strings.Repeat("0", 8189)+","+strings.Repeat(" ", 9000)+"-0."+strings.Repeat("0", 8189), "A1", "A1", num(minus), "B1", num(minus))
	for _, s := range []string{one + "x", `"` + one + `x"`, one[:1023] + "é", `"` + quotes + `"""`, strings.Repeat(" ", 1025), one[:1020] + "     ", strings.Repeat("0", 8192) + "5", strings.Repeat(" ", 1020) + "1e999", `"` + strings.Repeat("\n", 1025) + `"`, strings.Repeat("x", 1<<20)} {
		for _, ahead := range []string{"", "1,", "\n\n", "\"\n\"\r\n,"} {
			noReads(t, ahead+s, at, api.ErrLong, len(ahead))
			noReads(t, ahead+s+",\xff\n\"", at, api.ErrLong, len(ahead))
		}
	}
	// Of one field: its form ahead of its length, that ahead of where it goes.
	last := cell("IV4096")
	noReads(t, one+"x\xff", at, api.ErrForm, 0)
	noReads(t, `"`+one+`x"y`, at, api.ErrForm, 0)
	noReads(t, `"`+one+"x", at, api.ErrForm, 0)
	noReads(t, "1,\xff", last, api.ErrForm, 2)
	noReads(t, "1,\"a", last, api.ErrForm, 2)
	noReads(t, "1,"+one+"x", last, api.ErrLong, 2)
	noReads(t, "1,"+one, last, api.ErrAddr, 2)
	// Of several fields the first one's.
	noReads(t, "1,x,\xff", last, api.ErrAddr, 2)
	noReads(t, "1,\xff,x", last, api.ErrForm, 2)
	noReads(t, "1\n\xff,"+one+"x", last, api.ErrForm, 2)
	noReads(t, "\"a\",\"b\" ,\"", at, api.ErrForm, 4)
}

func TestNumbersPlaces(t *testing.T) {
	for _, at := range noCells() {
		for _, s := range []string{"", "1", "\xff", "\"", strings.Repeat("x", api.MaxFile+1)} {
			noReads(t, s, at, api.ErrAddr, 0)
		}
	}
	// At the last column and the last row: what is no put may stand beyond.
	reads(t, "1,", "IV1", "IV1", num(1))
	reads(t, "1,,,,,\n2,\n", "IV1", "IV1", num(1), "IV2", num(2))
	reads(t, "1,2,,\n3,4", "IU7", "IU7", num(1), "IV7", num(2), "IU8", num(3), "IV8", num(4))
	reads(t, "1\n", "A4096", "A4096", num(1))
	reads(t, "1\n\n,,,\n\r\n,", "A4096", "A4096", num(1))
	reads(t, "1"+strings.Repeat(",", 300)+strings.Repeat("\n", 5000), "IV4096", "IV4096", num(1))
	reads(t, strings.Repeat(",", 255)+"1\n2", "A1", "IV1", num(1), "A2", num(2))
	reads(t, strings.Repeat("\n", 4095)+"1", "A1", "A4096", num(1))
	noReads(t, "1,2", cell("IV1"), api.ErrAddr, 2)
	noReads(t, "1,,2", cell("IV1"), api.ErrAddr, 3)
	noReads(t, "1, ", cell("IV1"), api.ErrAddr, 2)
	noReads(t, "1,\"\"", cell("IV1"), api.ErrAddr, 2)
	noReads(t, "1\n2", cell("A4096"), api.ErrAddr, 2)
	noReads(t, "1\r\n\n,2", cell("A4096"), api.ErrAddr, 5)
	noReads(t, strings.Repeat(",", 256)+"1\n2", cell("A1"), api.ErrAddr, 256)
	noReads(t, strings.Repeat("\n", 4096)+"1", cell("A1"), api.ErrAddr, 4096)
	noReads(t, strings.Repeat("\r\n", 4096)+",1", cell("A1"), api.ErrAddr, 8193)
	noReads(t, strings.Repeat("\n", 100000)+"1", cell("A1"), api.ErrAddr, 100000)
	noReads(t, strings.Repeat(",", 100000)+"1", cell("A1"), api.ErrAddr, 100000)
}

func TestNumbersMany(t *testing.T) {
	many := strings.Repeat("1,1\n", 2048)
	for _, behind := range []string{"", "\n", ",,,\n", ",", "\r\n\r\n"} {
		// An empty field is no put: MaxCells puts may have as many behind them as there are.
		puts, bad := lines.Numbers(many+behind, cell("A1"))
		if bad != (api.Mishap{}) || len(puts) != api.MaxCells {
			t.Fatalf("P23.6: Numbers of MaxCells fields and %q: %d puts, error %d at %d", behind, len(puts), bad.Code, bad.At)
		}
		for i, p := range puts {
			if p.At != xy(i%2+1, i/2+1) || told(p.C) != told(num(1)) {
				t.Fatalf("P23.6: put %d of Numbers stands at %v, is %s", i, p.At, told(p.C))
			}
		}
		at := len(many) + len(behind)
		noReads(t, many+behind+"1", cell("A1"), api.ErrMany, at)
		noReads(t, many+behind+"\"\",2", cell("A1"), api.ErrMany, at)
		noReads(t, many+behind+" ,\xff", cell("A1"), api.ErrMany, at)
		noReads(t, many+behind+"\xff", cell("A1"), api.ErrForm, at)
		noReads(t, many+behind+"\"", cell("A1"), api.ErrForm, at)
		noReads(t, many+behind+strings.Repeat("x", 1025), cell("A1"), api.ErrLong, at)
	}
	// Where it goes comes ahead of how many there are.
	noReads(t, many+"1", cell("A2049"), api.ErrAddr, len(many))
	noReads(t, many+strings.Repeat(",", 256)+"1", cell("A1"), api.ErrAddr, len(many)+256)
	noReads(t, many+"1", cell("A2050"), api.ErrAddr, len(many)-4)
	if puts, bad := lines.Numbers(many, cell("IU2049")); bad != (api.Mishap{}) || len(puts) != 4096 || puts[4095].At != cell("IV4096") {
		t.Errorf("P23.6: Numbers at IU2049: %d puts, error %d at %d", len(puts), bad.Code, bad.At)
	}
}

func TestNumbersGreat(t *testing.T) {
	reads(t, strings.Repeat("\n", api.MaxFile), "A1")
	reads(t, strings.Repeat(",", api.MaxFile), "A1")
	reads(t, strings.Repeat(",", api.MaxFile-2)+"\n5", "A1", "A2", num(5))
	reads(t, strings.Repeat(" ", api.MaxFile-1)+"5", "A1", "A1", num(5))
	noReads(t, strings.Repeat(" ", api.MaxFile), cell("A1"), api.ErrLong, 0)
	noReads(t, strings.Repeat("\"", api.MaxFile-1), cell("A1"), api.ErrForm, 0)
	for _, s := range []string{strings.Repeat("\n", api.MaxFile+1), strings.Repeat(" ", api.MaxFile) + "5", "\xff" + strings.Repeat("\n", api.MaxFile), "\"" + strings.Repeat("\n", 2*api.MaxFile)} {
		noReads(t, s, cell("A1"), api.ErrLong, 0)
	}
}
