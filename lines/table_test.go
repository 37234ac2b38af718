package lines_test

import (
	"math"
	"strings"
	"testing"

	"quadrille/api"
)

// P23.5: a table.

func TestTableAreas(t *testing.T) {
	l := []api.Cell{shows("A1", num(1.5)), shows("B1", text("a,b")), shows("B2", truth(true)), shows("C3", fault(4)), shows("IV4096", text("z"))}
	for at, want := range map[string]string{
		"A1:B2": "1.5,\"a,b\"\n,TRUE\n", "A1": "1.5\n", "D1": "\n", "C3": "#REF!\n", "IV4096": "z\n", "A1:C1": "1.5,\"a,b\",\n", "A1:A3": "1.5\n\n\n", "B1:B3": "\"a,b\"\nTRUE\n\n", "A1:C3": "1.5,\"a,b\",\n,TRUE,\n,,#REF!\n", "B2:C3": "TRUE,\n,#REF!\n", "D4:F5": ",,\n,,\n", "IU4095:IV4096": ",\n,z\n",
		"A1:IV1": "1.5,\"a,b\"" + strings.Repeat(",", 254) + "\n", "A1:A4096": "1.5" + strings.Repeat("\n", 4096), "A4096:IV4096": strings.Repeat(",", 255) + "z\n",
	} {
		tables(t, l, area(at), general, want)
		tables(t, nil, area(at), general, strings.Map(func(r rune) rune {
			if r == '\n' || r == ',' {
				return r
			}
			return -1
		}, strings.ReplaceAll(want, "a,b", "ab")))
	}
	// Cells in any order; of several the last one, blank or not, even where it stands far behind; those that stand elsewhere, in no cell too, are nothing.
	l = []api.Cell{shows("B1", num(2)), shows("A1", num(7)), {At: cell("B1")}, shows("C9", num(3)), shows("A1", text("x")), shows("A1", num(1)), {At: xy(0, 1), V: num(5).V}, {At: xy(257, 1), V: num(6).V}, {At: xy(1, math.MaxInt), V: num(8).V}, {At: xy(-1, -1), V: num(9).V}, shows("C1", num(4)), {V: num(3).V}}
	tables(t, l, area("A1:C1"), general, "1,,4\n")
	// What a cell has doesn't count, what it shows does.
	tables(t, []api.Cell{{At: cell("A1"), C: form("B1"), V: num(3).V}, {At: cell("B1"), C: api.Content{Kind: 9}, V: text("v").V}, {At: cell("C1"), C: num(7)}}, area("A1:C1"), general, "3,v,\n")
}

func TestTableFields(t *testing.T) {
	one := func(c api.Content, want string) {
		t.Helper()
		tables(t, []api.Cell{shows("B2", c)}, area("B2"), general, want+"\n")
	}
	for _, s := range asText() {
		want := s
		if strings.ContainsAny(s, ",\"\n\r") || strings.HasPrefix(s, " ") || strings.HasSuffix(s, " ") {
			want = `"` + strings.ReplaceAll(s, `"`, `""`) + `"`
		}
		one(text(s), want)
	}
	for w, c := range words() {
		one(text(w), `"`+w+`"`)
		one(text(" "+w), `" `+w+`"`)
		one(text(w+" "), `"`+w+` "`)
		if c.V.Kind != api.Number {
			one(c, strings.ToUpper(w))
		}
	}
	for s, want := range map[string]string{"": `""`, `"`: `""""`, `""`: `""""""`, `a"b`: `"a""b"`, ",": `","`, "\n": "\"\n\"", "\r": "\"\r\"", "a\r\nb": "\"a\r\nb\"", " ": `" "`, "a b": "a b", "\ta": "\ta", "=A1": "=A1", "'x": "'x", "'5": "'5", "a;b": "a;b", "\u00a0": "\u00a0", "\x0b": "\x0b", "é": "é"} {
		one(text(s), want)
	}
	one(api.Content{}, "")
	for want, c := range map[string]api.Content{"0": num(0), "-0": num(minus), "0.1": num(.1), "1e21": num(1e21), "NaN": num(math.Float64frombits(0xfff8000000000123)), "Inf": num(math.Inf(1)), "-Inf": num(math.Inf(-1)), "TRUE": truth(true), "FALSE": truth(false), "#DIV!": fault(1), "#NUM!": fault(2), "#VALUE!": fault(3), "#REF!": fault(4), "#NONE!": fault(5)} {
		one(c, want)
	}
	for b := range 128 {
		s := "a" + string(rune(b)) + "b"
		want := s
		switch b {
		case ',', '\n', '\r':
			want = `"` + s + `"`
		case '"':
			want = `"a""b"`
		}
		one(text(s), want)
	}
}

// Numbers by the format; blanks ahead of them need no quotes, commas do. What is no number doesn't hang on it.
func TestTableFormats(t *testing.T) {
	l := []api.Cell{shows("A1", num(1234.5)), shows("B1", num(-0.001)), shows("C1", truth(false)), shows("D1", text("1")), shows("E1", text("x")), shows("F1", num(math.NaN())), shows("G1", fault(5))}
	for _, one := range []struct {
		f    api.Format
		want string
	}{
		{api.Format{Kind: api.Fixed, Places: 2}, "1234.50,-0.00,FALSE,\"1\",x,NaN,#NONE!\n"},
		{api.Format{Kind: api.Fixed, Places: 1, Group: true}, "\"1,234.5\",-0.0,FALSE,\"1\",x,NaN,#NONE!\n"},
		{api.Format{Kind: api.Fixed, Places: 1, Group: true, Width: 9}, "\"  1,234.5\",     -0.0,FALSE,\"1\",x,      NaN,#NONE!\n"},
		{api.Format{Kind: api.Fixed, Places: 1, Group: true, Width: 4}, "####,-0.0,FALSE,\"1\",x, NaN,#NONE!\n"},
		{api.Format{Kind: api.General, Places: 2}, "1200,-0.001,FALSE,\"1\",x,NaN,#NONE!\n"},
		{api.Format{Kind: api.Scientific, Places: 1}, "1.2e+03,-1.0e-03,FALSE,\"1\",x,NaN,#NONE!\n"},
		{api.Format{Kind: api.Percent, Group: true}, "\"123,450%\",-0%,FALSE,\"1\",x,NaN,#NONE!\n"},
		{api.Format{Kind: api.Fraction, Places: 1}, "1234 1/2,-0,FALSE,\"1\",x,NaN,#NONE!\n"},
		{general, "1234.5,-0.001,FALSE,\"1\",x,NaN,#NONE!\n"},
	} {
		tables(t, l, area("A1:G1"), one.f, one.want)
	}
}

func TestTableRefused(t *testing.T) {
	good := []api.Cell{shows("A1", num(1))}
	bad := []api.Cell{shows("A1", num(1)), {At: cell("B2"), V: api.Value{Kind: 7}}}
	for _, a := range noAreas() {
		for _, l := range [][]api.Cell{nil, good, bad} {
			noTable(t, l, a, general, api.ErrAddr)
			noTable(t, l, a, api.Format{}, api.ErrAddr)
		}
	}
	for _, f := range noFormats() {
		noTable(t, nil, area("A1"), f, api.ErrArg)
		noTable(t, good, area("A1:B2"), f, api.ErrArg)
		noTable(t, bad, area("A1:B2"), f, api.ErrArg)
	}
	// A value that may not be, wherever it stands: in the area, outside, in no cell, ahead of another one of that cell.
	for _, v := range noValues() {
		for _, at := range []api.Addr{cell("A1"), cell("C3"), {}, xy(257, 1), xy(-1, math.MaxInt)} {
			noTable(t, []api.Cell{{At: at, V: v}}, area("A1"), general, api.ErrArg)
			noTable(t, []api.Cell{shows("A1", num(1)), {At: at, V: v}, {At: at, V: num(1).V}}, area("A1:B2"), general, api.ErrArg)
		}
	}
}

func TestTableGreat(t *testing.T) {
	// A million fields are as many commas and bytes 10; 3072 texts of 1024 bytes fill the rest.
	all := area("A1:IV4096")
	var l []api.Cell
	for row := 1; row <= 3072; row++ {
		l = append(l, api.Cell{At: xy(row%256+1, row), V: text(strings.Repeat("x", 1024)).V})
	}
	wanted := func(l []api.Cell) string {
		var b strings.Builder
		for row := 1; row <= 4096; row++ {
			for col := 1; col <= 256; col++ {
				if row <= len(l) && col == row%256+1 {
					b.WriteString(l[row-1].V.S)
				}
				b.WriteString(map[bool]string{true: "\n", false: ","}[col == 256])
			}
		}
		return b.String()
	}
	if want := wanted(l); len(want) != api.MaxFile {
		t.Fatalf("%d bytes", len(want))
	} else {
		tables(t, l, all, general, want)
	}
	more := append(l, shows("IV4096", text("x")))
	noTable(t, more, all, general, api.ErrLong)
	noTable(t, append(more, api.Cell{V: api.Value{Kind: 5}}), all, general, api.ErrArg)
	noTable(t, more, all, api.Format{}, api.ErrArg)
	more = append(l, shows("A1", text("x")))
	noTable(t, more, all, general, api.ErrLong)
	l[3071].V = text(strings.Repeat("x", 1023)).V
	tables(t, append(l, shows("A1", text("x"))), all, general, "x"+wanted(l))
	// Quotes count, too.
	noTable(t, append(l, shows("A1", text(""))), all, general, api.ErrLong)
	l[3071].V = text(strings.Repeat("x", 1022)).V
	tables(t, append(l, shows("A1", text(""))), all, general, `""`+wanted(l))
}
