package lines_test

import (
	"math"
	"strings"
	"testing"

	"quadrille/api"
	"quadrille/lines"
)

// P23.1: typed in.

// asText are texts that Entry takes for themselves; numbers, truths and faults that are spoilt are among them.
func asText() []string {
	return []string{
		"a", "abc", " a", "a ", "  a b  ", " ", "   ", "\t", "\t5", "5\t", "5\n", "\n", "\r5", "5\x00", "\u00a05", "5\u00a0", "\u20035",
		" =A1", " '5", " =", " '", "a=1", "a'", "-", "+", ".", "e5", "1e", "1e+", "0x", "0x.", "0x.p1", "0x1p", "1_0", "1 0", "1,5", "- 5", "+ 5", "--5", "+-5", "1.2.3", "0b1", "0o7", "1f", "$5", "5%", "(5)", "A1", "\"5\"",
		"nan", "NAN", "+NaN", "-NaN", "inf", "INF", "Infinity", "+inf", "--Inf", "NaN1", "Inf.",
		"1e999", "-1e999", "+1e309", "0x1p1024", "-0x1p+1024", "179769313486231580794e288", "1e99999999999999999999",
		"TRUE1", "TRU", "T", "RUE", "TRUE TRUE", "tr ue", "FALS", "FALSEE", "yes", "no", "T\u0280UE", "FAL\u017fE", "\uff34RUE", "TRUE\x00",
		"#", "#!", "#DIV", "DIV!", "#DIV !", "# DIV!", "#DIV!!", "#DIV/0!", "#N/A", "#NUM", "#VALUE", "#REF", "#REF!A1", "#NONE", "#NAME!", "#D\u0131V!", "##REF!", "#VALU\u00c8!",
		"é", "日本", "\u0000", "\U0010ffff", "\ufffd", strings.Repeat("x", 1024), strings.Repeat("é", 512), strings.Repeat(" ", 1024), strings.Repeat("日", 341) + "a",
	}
}

// words are plain words with what they say.
func words() map[string]api.Content {
	m := map[string]api.Content{
		"0": num(0), "+0": num(0), "-0": num(minus), "-0.0e9": num(minus), "00": num(0), "5": num(5), "+5": num(5), "-5": num(-5), "005": num(5), "5.": num(5), ".5": num(.5), "-.5": num(-.5), "5.50": num(5.5), "1e3": num(1000), "1E3": num(1000), "1e+3": num(1000), "1e-3": num(.001), "1e003": num(1000), "1.e1": num(10), ".1e1": num(1),
		"0x10": num(16), "0XfF": num(255), "0x1.8p1": num(3), "-0xfP-1": num(-7.5), "0x.8": num(.5), "0x8.": num(8), "-0x0": num(minus), "0x1p-1074": num(0x1p-1074),
		"NaN": num(math.Float64frombits(0x7ff8 << 48)), "Inf": num(math.Inf(1)), "+Inf": num(math.Inf(1)), "-Inf": num(math.Inf(-1)),
		"1e-999": num(0), "-1e-999": num(minus), "5e-324": num(5e-324), "1.7976931348623157e308": num(math.MaxFloat64), "179769313486231580793e288": num(math.MaxFloat64), "9007199254740993": num(1 << 53), "0.1": num(.1), "0e999999999999": num(0), "2.4703282292062327208e-324": num(0), "2.4703282292062328e-324": num(0x1p-1074),
	}
	// Letters of each size, mixed too.
	for name, c := range map[string]api.Content{"TRUE": truth(true), "FALSE": truth(false), "#DIV!": fault(1), "#NUM!": fault(2), "#VALUE!": fault(3), "#REF!": fault(4), "#NONE!": fault(5)} {
		for bits := range 1 << len(name) {
			b := []byte(strings.ToLower(name))
			for i := range b {
				if bits>>i&1 == 1 {
					b[i] = name[i]
				}
			}
			m[string(b)] = c
		}
	}
	return m
}

func TestEntryWords(t *testing.T) {
	for w, c := range words() {
		for _, blanks := range []string{"", " ", "     "} {
			entry(t, blanks+w, c)
			entry(t, w+blanks, c)
			entry(t, blanks+w+blanks, c)
		}
		// What is no blank isn't taken off, and behind a ' it is a text, whatever it would be.
		for _, other := range []string{"\t", "\n", "\r", "\u00a0", "\x00"} {
			entry(t, other+w, text(other+w))
			entry(t, w+other, text(w+other))
		}
		entry(t, "'"+w, text(w))
		entry(t, "' "+w+" ", text(" "+w+" "))
		entry(t, " '"+w, text(" '"+w))
	}
}

func TestEntryTexts(t *testing.T) {
	entry(t, "", api.Content{})
	for _, s := range asText() {
		entry(t, s, text(s))
		entry(t, "'"+s, text(s))
	}
	for s, want := range map[string]string{"'": "", "''": "'", "'''": "''", "'=A1": "=A1", "'=": "=", "' ": " ", "'a'": "a'"} {
		entry(t, s, text(want))
	}
	// Each byte alone: of those above 127 none is right UTF-8.
	for b := range 256 {
		s := string([]byte{byte(b)})
		switch {
		case b > 127:
			noEntry(t, s, api.ErrForm, 0)
			noEntry(t, "'"+s, api.ErrForm, 0)
		case b == '=':
			noEntry(t, s, api.ErrEnd, 1)
			entry(t, "'"+s, text(s))
		case b == '\'':
			entry(t, s, text(""))
			entry(t, "'"+s, text(s))
		case b >= '0' && b <= '9':
			entry(t, s, num(float64(b-'0')))
			entry(t, "'"+s, text(s))
		default:
			entry(t, s, text(s))
			entry(t, "'"+s, text(s))
		}
	}
}

func TestEntryFormulas(t *testing.T) {
	for _, s := range []string{"A1", "1", " 1 + 2 ", "a1", "sum(b2:$a$1, 3)", "-2^2", "\"=\"", "5", "TRUE", "#REF!", "A1=A2", "0x10", "\"é\""} {
		entry(t, "="+s, form(s))
		entry(t, "'="+s, text("="+s))
		entry(t, " ="+s, text(" ="+s))
	}
	for _, bad := range []struct {
		s    string
		code api.Errno
		at   int
	}{
		{"=", api.ErrEnd, 1}, {"= ", api.ErrEnd, 2}, {"=1+", api.ErrEnd, 3}, {"=(1", api.ErrEnd, 3}, {"==1", api.ErrSyntax, 1}, {"=1 2", api.ErrSyntax, 3}, {"=A1:B2", api.ErrSyntax, 3}, {"=*", api.ErrSyntax, 1},
		{"=foo", api.ErrName, 1}, {"=1+foo(1)", api.ErrName, 3}, {"=1+sqrt()", api.ErrCount, 3}, {"=1+@", api.ErrWord, 3}, {"='5", api.ErrWord, 1}, {"=\xff", api.ErrWord, 1},
		{"=" + strings.Repeat("-", 32) + "1", api.ErrDeep, 1}, {"=SUM(" + strings.Repeat("1,", 255) + "1)", api.ErrMany, 1},
	} {
		noEntry(t, bad.s, bad.code, bad.at)
		if bad.code != api.ErrWord {
			entry(t, "'"+bad.s, text(bad.s))
		}
	}
}

func TestEntryLong(t *testing.T) {
	blanks := strings.Repeat(" ", 4096)
	entry(t, blanks+"5", num(5))
	entry(t, "5"+blanks, num(5))
	entry(t, blanks[:4092]+"#REF!", fault(4))
	entry(t, strings.Repeat("0", 4096)+"7", num(7))
	entry(t, "="+blanks[:4095]+"1", form("1"))
	entry(t, "=\""+strings.Repeat("x", 1024)+"\"&"+blanks[:3067]+"A1", form("\""+strings.Repeat("x", 1024)+"\"&A1"))
	entry(t, "'"+strings.Repeat("x", 1024), text(strings.Repeat("x", 1024)))
	for _, s := range []string{blanks + " 5", "=" + blanks + "1", "'" + blanks + "x", strings.Repeat("\xff", 4098), strings.Repeat("x", 4098), "=" + strings.Repeat("\xff", 4097), strings.Repeat("0", 4098), "x" + strings.Repeat("5", 1<<22)} {
		noEntry(t, s, api.ErrLong, 0)
	}
	// A text that may not be kept: first of all right UTF-8, then how long it is.
	for _, s := range []string{strings.Repeat("x", 1025), strings.Repeat("é", 513), strings.Repeat(" ", 1025), blanks + " ", blanks[:1021] + "1e999", "1e" + strings.Repeat("9", 1023), strings.Repeat("x", 4097)} {
		noEntry(t, s, api.ErrLong, 0)
		noEntry(t, "'"+s[:min(len(s), 4096)], api.ErrLong, 0)
	}
	for _, s := range []string{"\xff", "a\xc3", "\xc3", "é\xa9", "\xed\xa0\x80", "\xc0\x80", "\xf4\x90\x80\x80", "5\xff", "\xff5", " \x80 ", strings.Repeat("x", 1025) + "\xff", "\xff" + strings.Repeat("x", 4096), "TRUE\x80"} {
		noEntry(t, s, api.ErrForm, 0)
		noEntry(t, "'"+s[:min(len(s), 4096)], api.ErrForm, 0)
	}
	// A piece of a letter at the end of what is just long enough.
	noEntry(t, strings.Repeat("x", 1023)+"\xc3", api.ErrForm, 0)
	noEntry(t, strings.Repeat("x", 1023)+"é", api.ErrLong, 0)
}

// P23.2: typed out.

func TestTyped(t *testing.T) {
	types(t, api.Content{}, "")
	types(t, api.Content{F: api.Node{Args: []api.Node{}}}, "")
	for _, s := range asText() {
		types(t, text(s), s)
	}
	for w := range words() {
		for _, s := range []string{w, " " + w, w + "  ", "   " + w + " "} {
			types(t, text(s), "'"+s)
		}
	}
	for _, s := range []string{"", "=", "=A1", "=1+", "==", "'", "''", "'a", "'5", "= ", "=\n"} {
		types(t, text(s), "'"+s)
	}
	for want, c := range map[string]api.Content{
		"0": num(0), "-0": num(minus), "0.1": num(.1), "-1.5": num(-1.5), "1e21": num(1e21), "100000000000000000000": num(1e20), "0.0000001": num(1e-7), "1e-8": num(1e-8), "5e-324": num(5e-324), "-1.7976931348623157e308": num(-math.MaxFloat64), "Inf": num(math.Inf(1)), "-Inf": num(math.Inf(-1)), "NaN": num(math.NaN()),
		"TRUE": truth(true), "FALSE": truth(false), "#DIV!": fault(1), "#NUM!": fault(2), "#VALUE!": fault(3), "#REF!": fault(4), "#NONE!": fault(5),
		"=A1": form("a1"), "=SUM($A$1:B2,3)": form("sum( b2:$a$1 , 3 )"), "=-2^2": form("-(2^2)"), "=\"a\"\"b\"&TRUE": form("\"a\"\"b\" & true"), "=16": form("0x10"), "=#REF!": form("#ref!"), "=1": form("1"), "=\"\\\n\"": form("\"\\\n\""),
	} {
		types(t, c, want)
	}
	types(t, num(math.Float64frombits(0xfff0000000000001)), "NaN")
	types(t, text(strings.Repeat("5", 1024)), strings.Repeat("5", 1024)) // a number too great is a text
	types(t, text(strings.Repeat("5", 300)), "'"+strings.Repeat("5", 300))
	types(t, text(strings.Repeat(" ", 1023)+"5"), "'"+strings.Repeat(" ", 1023)+"5")
	types(t, text("="+strings.Repeat("x", 1023)), "'="+strings.Repeat("x", 1023))
}

func TestTypedRefused(t *testing.T) {
	for i, c := range noContents() {
		if s, err := lines.Typed(c); err != api.ErrArg || s != "" {
			t.Errorf("P23.2: Typed of content %d that may not be: %q, error %d", i, short(s), err)
		}
	}
	for _, size := range []int{4094, 4095, 4096} {
		c := long(size)
		s, err := lines.Typed(c)
		if err != api.OK || len(s) != size+1 {
			t.Errorf("P23.2: Typed of a formula of %d bytes: %d bytes, error %d", size, len(s), err)
		}
		types(t, c, s)
	}
	for _, size := range []int{4097, 4098, 4101} {
		if s, err := lines.Typed(long(size)); err != api.ErrLong || s != "" {
			t.Errorf("P23.2: Typed of a formula of %d bytes: %d bytes, error %d", size, len(s), err)
		}
	}
	// A formula that may not be is ErrArg, however long it would be.
	c := long(4101)
	c.V = num(1).V
	if s, err := lines.Typed(c); err != api.ErrArg || s != "" {
		t.Errorf("P23.2: Typed of a content that may not be: %d bytes, error %d", len(s), err)
	}
}
