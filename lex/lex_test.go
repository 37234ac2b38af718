package lex_test

import (
	"fmt"
	"iter"
	"math"
	"math/rand"
	"regexp"
	"slices"
	"strconv"
	"strings"
	"testing"
	"unicode/utf8"

	"quadrille/api"
	"quadrille/lex"
)

// The makers of words say each field that the document gives a meaning; all else is zero.

func num(at int, text string, x float64) lex.Token {
	return lex.Token{Kind: 1, Text: text, At: at, X: x}
}

func txt(at int, text, s string) lex.Token {
	return lex.Token{Kind: 2, Text: text, At: at, S: s}
}

func ref(at int, text string, col, row int, colFixed, rowFixed bool) lex.Token {
	return lex.Token{Kind: 3, Text: text, At: at, Ref: api.Ref{Addr: api.Addr{Col: col, Row: row}, ColFixed: colFixed, RowFixed: rowFixed}}
}

func name(at int, text, s string) lex.Token {
	return lex.Token{Kind: 4, Text: text, At: at, S: s}
}

func sign(at int, text string) lex.Token {
	return lex.Token{Kind: 5, Text: text, At: at}
}

func fault(at int, text string, f int) lex.Token {
	return lex.Token{Kind: 6, Text: text, At: at, F: f}
}

// same tells whether two lists have the same words, numbers bit by bit.
func same(a, b []lex.Token) bool {
	return slices.EqualFunc(a, b, func(x, y lex.Token) bool {
		return x == y && math.Float64bits(x.X) == math.Float64bits(y.X)
	})
}

// gone are the words that an iterator goes over.
func gone(seq iter.Seq[lex.Token]) []lex.Token {
	var l []lex.Token
	for w := range seq {
		l = append(l, w)
	}
	return l
}

// short is a text as a failure tells it.
func short(text string) string {
	if len(text) > 200 {
		text = text[:200] + ".."
	}
	return strconv.QuoteToASCII(text)
}

// told are words as a failure tells them.
func told(l []lex.Token) string {
	return short(fmt.Sprintf("%+v", l[:min(len(l), 20)]))
}

// checkWords holds a text that is words throughout against them.
func checkWords(t *testing.T, text string, want ...lex.Token) {
	t.Helper()
	l, bad := lex.Tokens(text)
	if bad != (api.Mishap{}) || !same(l, want) {
		t.Errorf("P11.1: Tokens(%s): %s, %v; not %s", short(text), told(l), bad, told(want))
	}
	if each := gone(lex.Each(text)); !same(each, want) {
		t.Errorf("P11.2: Each(%s): %s; not %s", short(text), told(each), told(want))
	}
}

// checkMishap holds a text that has a mishap against that, and against the words ahead of it.
func checkMishap(t *testing.T, text string, code api.Errno, at int, ahead ...lex.Token) {
	t.Helper()
	l, bad := lex.Tokens(text)
	if bad != (api.Mishap{Code: code, At: at}) || len(l) > 0 {
		t.Errorf("P11.1: Tokens(%s): %s, %v; not %d at %d alone", short(text), told(l), bad, code, at)
	}
	if each := gone(lex.Each(text)); !same(each, ahead) {
		t.Errorf("P11.2: Each(%s): %s; not %s", short(text), told(each), told(ahead))
	}
}

// moved are words so many bytes farther behind.
func moved(l []lex.Token, by int) []lex.Token {
	l = slices.Clone(l)
	for i := range l {
		l[i].At += by
	}
	return l
}

// checkWord checks a word alone, and as a later one, with blanks around it.
func checkWord(t *testing.T, w lex.Token) {
	t.Helper()
	checkWords(t, w.Text, w)
	later := moved([]lex.Token{w}, 5)[0]
	checkWords(t, "1 +\t "+w.Text+" \r\n) ", num(0, "1", 1), sign(2, "+"), later, sign(5+len(w.Text)+3, ")"))
}

// checkNone checks what is no word, at the beginning and as a later one.
func checkNone(t *testing.T, text string, code api.Errno) {
	t.Helper()
	checkMishap(t, text, code, 0)
	checkMishap(t, " "+text, code, 1)
	checkMishap(t, "B2<>\n\n"+text, code, 6, ref(0, "B2", 2, 2, false, false), sign(2, "<>"))
	// What comes behind is none of its business.
	checkMishap(t, "1% "+text+" ! \x00", code, 3, num(0, "1", 1), sign(1, "%"))
}

// checkNoneAtEnd is it for what would go on into what stands behind.
func checkNoneAtEnd(t *testing.T, text string, code api.Errno) {
	t.Helper()
	checkMishap(t, text, code, 0)
	checkMishap(t, " "+text, code, 1)
	checkMishap(t, "B2<>\n\n"+text, code, 6, ref(0, "B2", 2, 2, false, false), sign(2, "<>"))
}

func TestKinds(t *testing.T) {
	if l := []int{lex.Number, lex.Text, lex.Ref, lex.Name, lex.Sign, lex.Fault}; !slices.Equal(l, []int{1, 2, 3, 4, 5, 6}) {
		t.Errorf("P11.1: the kinds are %v", l)
	}
}

func TestExamples(t *testing.T) {
	a1 := ref(0, "A1", 1, 1, false, false)
	checkWords(t, "1.5e3*A1", num(0, "1.5e3", 1500), sign(5, "*"), ref(6, "A1", 1, 1, false, false))
	checkWords(t, "sum( $b$2:c10 , 2 )", name(0, "sum", "SUM"), sign(3, "("), ref(5, "$b$2", 2, 2, true, true), sign(9, ":"),
		ref(10, "c10", 3, 10, false, false), sign(14, ","), num(16, "2", 2), sign(18, ")"))
	checkWords(t, "LOG10(2)", name(0, "LOG10", "LOG10"), sign(5, "("), num(6, "2", 2), sign(7, ")"))
	checkWords(t, "A1(2)", name(0, "A1", "A1"), sign(2, "("), num(3, "2", 2), sign(4, ")"))
	checkWords(t, "A1 (2)", a1, sign(3, "("), num(4, "2", 2), sign(5, ")"))
	checkWords(t, `"a""b"&""`, txt(0, `"a""b"`, `a"b`), sign(6, "&"), txt(7, `""`, ""))
	checkWords(t, "<>=", sign(0, "<>"), sign(2, "="))
	checkWords(t, "<=>", sign(0, "<="), sign(2, ">"))
	checkWords(t, ">==", sign(0, ">="), sign(2, "="))
	checkWords(t, "#REF!+#NONE!", fault(0, "#REF!", 4), sign(5, "+"), fault(6, "#NONE!", 5))
	checkWords(t, "")
	checkWords(t, " \t\n\r")
	checkWords(t, "1 A1", num(0, "1", 1), ref(2, "A1", 1, 1, false, false))
	checkWords(t, "A1B", name(0, "A1B", "A1B"))
	checkWords(t, "ZZZ9", name(0, "ZZZ9", "ZZZ9"))
	for _, text := range []string{"1A", "1.2.3", ".", "$", "a$", "#DIV", "!"} {
		checkMishap(t, text, api.ErrWord, 0)
	}
	checkMishap(t, `2 "a`, api.ErrEnd, 2, num(0, "2", 2))
	checkMishap(t, "1;2", api.ErrWord, 1, num(0, "1", 1))
	checkMishap(t, "1e999", api.ErrOver, 0)
	checkMishap(t, "0x1p-2+0xg", api.ErrWord, 7, num(0, "0x1p-2", 0.25), sign(6, "+"))
}

// P11.1: how long a text may be.
func TestLongTexts(t *testing.T) {
	blanks := strings.Repeat(" ", 4096)
	checkWords(t, blanks)
	checkWords(t, blanks[:4095]+"1", num(4095, "1", 1))
	checkWords(t, "1"+blanks[:4095], num(0, "1", 1))
	checkWords(t, blanks[:4094]+"<=", sign(4094, "<="))
	checkMishap(t, blanks[:4095]+"!", api.ErrWord, 4095)
	checkMishap(t, blanks[:4095]+`"`, api.ErrEnd, 4095)
	checkMishap(t, blanks+" ", api.ErrLong, 0)
	checkMishap(t, blanks+"1", api.ErrLong, 0)
	checkMishap(t, "1"+blanks, api.ErrLong, 0)
	checkMishap(t, "!"+blanks, api.ErrLong, 0)
	checkMishap(t, strings.Repeat("1+", 2048)+"1", api.ErrLong, 0)
	checkMishap(t, strings.Repeat("(", 1<<20), api.ErrLong, 0)
	checkMishap(t, strings.Repeat("é", 2048)+"é", api.ErrLong, 0)
	l, bad := lex.Tokens(strings.Repeat("(", 4096))
	if len(l) != 4096 || bad != (api.Mishap{}) || l[4095] != sign(4095, "(") || l[0] != sign(0, "(") {
		t.Errorf("P11.1: 4096 signs are %d words, %v", len(l), bad)
	}
}

// P11.1, P11.4: blanks, and what looks like one.
func TestBlanks(t *testing.T) {
	for _, b := range []string{" ", "\t", "\n", "\r", "  ", " \t", "\r\n", "\n\n\t\t\r\r  "} {
		n := len(b)
		checkWords(t, b)
		checkWords(t, b+"1", num(n, "1", 1))
		checkWords(t, "1"+b, num(0, "1", 1))
		checkWords(t, b+"1"+b+"A1"+b, num(n, "1", 1), ref(2*n+1, "A1", 1, 1, false, false))
		checkWords(t, "<"+b+"=", sign(0, "<"), sign(n+1, "="))
		checkWords(t, "<"+b+">", sign(0, "<"), sign(n+1, ">"))
		checkWords(t, ">"+b+"=", sign(0, ">"), sign(n+1, "="))
		checkWords(t, `"a"`+b+`"b"`, txt(0, `"a"`, "a"), txt(n+3, `"b"`, "b"))
		// Within a text they are the text's.
		checkWords(t, `"`+b+`"`, txt(0, `"`+b+`"`, b))
		checkMishap(t, "#"+b+"REF!", api.ErrWord, 0)
		checkMishap(t, "."+b+"5", api.ErrWord, 0)
		checkWords(t, "5"+b+"e"+b+"3", num(0, "5", 5), name(n+1, "e", "E"), num(2*n+2, "3", 3))
	}
	for _, b := range []string{"\x00", "\x01", "\x08", "\x0b", "\x0c", "\x0e", "\x1c", "\x1f", "\x7f", "\x85", "\xa0", "\u0085", "\u00a0", "\u1680", "\u2003", "\u2028", "\u3000", "\ufeff", "\u200b"} {
		checkNone(t, b, api.ErrWord)
		checkMishap(t, "1"+b+"2", api.ErrWord, 1, num(0, "1", 1))
		checkMishap(t, "A1"+b, api.ErrWord, 2, ref(0, "A1", 1, 1, false, false))
	}
}

// nameBytes are the name's bytes of each kind, at the ends of each run of them.
const nameBytes = "AZazMm09_.$"

// P11.1: numbers.
func TestNumbers(t *testing.T) {
	for text, x := range map[string]float64{
		"0": 0, "7": 7, "007": 7, "12": 12, "1.5": 1.5, ".5": 0.5, "5.": 5, "0.1": 0.1, "1e2": 100, "1E2": 100, "1e+2": 100, "1e-2": 0.01, "1.e1": 10, ".5E-1": 0.05, "1e002": 100,
		"0x1": 1, "0Xff": 255, "0xAbC": 2748, "0x1.8": 1.5, "0x.8": 0.5, "0x8.": 8, "0x1p3": 8, "0x1P+3": 8, "0x1.8p-1": 0.75, "0x.8P1": 1, "0x1e2": 482, "0x8.p0": 8,
		"9007199254740993": 9007199254740992, "1e308": 1e308, "1e-400": 0, "0e999999999999": 0, "0x0p99999999": 0, "5e-324": 0x1p-1074, "1.7976931348623157e308": math.MaxFloat64, "2.4703282292062328e-324": 0x1p-1074,
	} {
		checkWord(t, num(0, text, x))
		checkWords(t, text+"+1", num(0, text, x), sign(len(text), "+"), num(len(text)+1, "1", 1))
		checkWords(t, text+"(", num(0, text, x), sign(len(text), "("))
		checkWords(t, text+`""`, num(0, text, x), txt(len(text), `""`, ""))
		checkWords(t, text+"#ref!", num(0, text, x), fault(len(text), "#ref!", 4))
		checkWords(t, text+" B3", num(0, text, x), ref(len(text)+1, "B3", 2, 3, false, false))
		checkWords(t, text+" 9", num(0, text, x), num(len(text)+1, "9", 9))
		checkMishap(t, text+"é", api.ErrWord, len(text), num(0, text, x))
		checkMishap(t, text+"!", api.ErrWord, len(text), num(0, text, x))
		for _, b := range []string{"g", "G", "z", "Z", "_", "$", "_1", "$A1", "SUM(1)"} {
			checkNone(t, text+b, api.ErrWord)
		}
		if strings.Contains(text, ".") {
			checkNone(t, text+"g.", api.ErrWord)
			checkNone(t, text+"..", api.ErrWord)
		}
	}
}

// P11.1: what begins like a number and is none.
func TestNoNumbers(t *testing.T) {
	for _, text := range []string{".", "..", "..5", ".e1", ".x", ".A1", "._", ".$", "1..", "1.2.3", "1.2.", "1e", "1E", "1e.", "1e1.", "1e1.5", "1e1e1", "1e2p3", "1p3", "0x", "0X", "0xg", "0x.", "0x.p1", "0xp1", "0x1p", "0x1.8.1", "0x1p1.", "0x1p1p1", "0x1pa", "0x1g", "00x1", "1A", "1A1", "2B", "1_0", "1$", "1.A", "0b1", "0o7", "1i", "1f", "3x4", "1e1A"} {
		checkNone(t, text, api.ErrWord)
	}
	// A sign behind the e ends the number ahead of it: what is left behind it is a name's byte.
	for _, text := range []string{"1e+", "1e-", "1e+A1", "1.5E-x", "0x1p+", "0x1p-z"} {
		checkNone(t, text, api.ErrWord)
	}
	checkWords(t, "1-1", num(0, "1", 1), sign(1, "-"), num(2, "1", 1))
	checkWords(t, "-1", sign(0, "-"), num(1, "1", 1))
	checkWords(t, "+.5", sign(0, "+"), num(1, ".5", 0.5))
	checkWords(t, "-0", sign(0, "-"), num(1, "0", 0))
	checkWords(t, "1 e5", num(0, "1", 1), ref(2, "e5", 5, 5, false, false))
}

// P11.1: numbers beyond every limit.
func TestGreatNumbers(t *testing.T) {
	for _, text := range []string{"1e999", "1e309", "1.7976931348623159e308", "2e308", "0x1p1024", "0x1.fffffffffffff8p1023", "1e99999999999999999999999", "9" + strings.Repeat("0", 400), "0x" + strings.Repeat("f", 300), strings.Repeat("9", 4000)} {
		checkNone(t, text, api.ErrOver)
		// The name's byte behind it comes first.
		checkNone(t, text+"_", api.ErrWord)
		checkNone(t, text+"z", api.ErrWord)
	}
	ones := strings.Repeat("9", 4096)
	checkMishap(t, ones, api.ErrOver, 0)
	checkMishap(t, ones+"9", api.ErrLong, 0)
	noughts := "." + strings.Repeat("0", 4095)
	checkWords(t, noughts, num(0, noughts, 0))
	small := "0." + strings.Repeat("0", 4000) + "1e4001"
	checkWords(t, small, num(0, small, 1))
	ahead := strings.Repeat("0", 4095) + "7"
	checkWords(t, ahead, num(0, ahead, 7))
	checkWords(t, "1e-99999999999999999999999", num(0, "1e-99999999999999999999999", 0))
}

// P11.1, P11.5: refs, in letters of each size, with nothing, one and both fixed.
func TestRefs(t *testing.T) {
	for _, c := range []struct {
		letters string
		col     int
	}{{"A", 1}, {"a", 1}, {"Z", 26}, {"z", 26}, {"AA", 27}, {"aA", 27}, {"Aa", 27}, {"aa", 27}, {"IV", 256}, {"iv", 256}, {"iV", 256}, {"Iv", 256}, {"e", 5}} {
		for _, row := range []int{1, 9, 10, 100, 4095, 4096} {
			r := strconv.Itoa(row)
			for _, w := range []lex.Token{
				ref(0, c.letters+r, c.col, row, false, false),
				ref(0, "$"+c.letters+r, c.col, row, true, false),
				ref(0, c.letters+"$"+r, c.col, row, false, true),
				ref(0, "$"+c.letters+"$"+r, c.col, row, true, true),
			} {
				checkWord(t, w)
				checkRefBehind(t, w)
			}
		}
	}
}

// checkRefBehind checks a ref with all kinds of things directly behind it.
func checkRefBehind(t *testing.T, w lex.Token) {
	t.Helper()
	n := len(w.Text)
	for _, s := range []string{"+", ":", ",", ")", "%", "=", "<>"} {
		checkWords(t, w.Text+s, w, sign(n, s))
	}
	checkWords(t, w.Text+`""`, w, txt(n, `""`, ""))
	checkWords(t, w.Text+"#NUM!", w, fault(n, "#NUM!", 2))
	checkWords(t, w.Text+":"+w.Text, w, sign(n, ":"), moved([]lex.Token{w}, n+1)[0])
	checkMishap(t, w.Text+"é", api.ErrWord, n, w)
	for _, b := range []string{" ", "\t", "\n", "\r", " \n"} {
		checkWords(t, w.Text+b+"(", w, sign(n+len(b), "("))
	}
	// A bracket directly behind makes it a name, if nothing is fixed.
	if strings.Contains(w.Text, "$") {
		checkNone(t, w.Text+"(", api.ErrWord)
		checkNone(t, w.Text+"_", api.ErrWord)
		checkNone(t, w.Text+"b", api.ErrWord)
		checkNone(t, w.Text+".", api.ErrWord)
	} else {
		checkWords(t, w.Text+"(", name(0, w.Text, strings.ToUpper(w.Text)), sign(n, "("))
		checkWords(t, w.Text+"()", name(0, w.Text, strings.ToUpper(w.Text)), sign(n, "("), sign(n+1, ")"))
		for _, s := range []string{"b", "Z", "_", ".", "_1", ".1", "x1"} {
			checkWord(t, name(0, w.Text+s, strings.ToUpper(w.Text+s)))
		}
	}
	checkNone(t, w.Text+"$", api.ErrWord)
	checkNone(t, w.Text+"$1", api.ErrWord)
}

// P11.1: what begins like a cell, or like more than one, and is a name or none.
func TestNoRefs(t *testing.T) {
	for _, text := range []string{"A", "IW1", "ZZZ9", "A0", "A01", "A4097", "A40961", "IV4097", "A1B", "A1B2", "A1.5", "A1_", "LOG10A", "XFD1048576", "AB", "R1C1", "A00000000000000000000000000000"} {
		checkWord(t, name(0, text, text))
	}
	for _, text := range []string{"$", "$$", "$1", "$A", "$A$", "A$", "a$", "A$$1", "$$A1", "A$0", "$A0", "$A4097", "A$4097", "$IW1", "IW$1", "$A1B", "A$1B", "A1$", "A1$1", "$_", "$.", "$sum", "su$m", "$A$1$", "A$1.5", "$LOG10"} {
		checkNone(t, text, api.ErrWord)
		checkNone(t, text+"(", api.ErrWord)
	}
	// A sign between parts them.
	checkWords(t, "A1:$B$2", ref(0, "A1", 1, 1, false, false), sign(2, ":"), ref(3, "$B$2", 2, 2, true, true))
	checkWords(t, "A1 A1", ref(0, "A1", 1, 1, false, false), ref(3, "A1", 1, 1, false, false))
	checkWords(t, "A1 $A1", ref(0, "A1", 1, 1, false, false), ref(3, "$A1", 1, 1, true, false))
	checkWords(t, "A1((", name(0, "A1", "A1"), sign(2, "("), sign(3, "("))
	checkWords(t, "(A1)(", sign(0, "("), ref(1, "A1", 1, 1, false, false), sign(3, ")"), sign(4, "("))
	checkWords(t, "A1\"(\"", ref(0, "A1", 1, 1, false, false), txt(2, `"("`, "("))
}

// P11.1, P11.3: names of each length, with each of a name's bytes at each place.
func TestNames(t *testing.T) {
	const long = "abcdefghijklmnopqrstuvwxyzABCDEFGHIJKLMNOPQRSTUVWXYZ"
	for n := 1; n <= 40; n++ {
		text := long[:n]
		if ok := n <= 32; lex.IsName(text) != ok {
			t.Errorf("P11.3: IsName of %d letters: %v", n, !ok)
		}
		if n <= 32 {
			checkWord(t, name(0, text, strings.ToUpper(text)))
			checkWords(t, text+"(", name(0, text, strings.ToUpper(text)), sign(n, "("))
		} else {
			checkNone(t, text, api.ErrWord)
			checkNone(t, text+"(", api.ErrWord)
		}
	}
	for _, text := range []string{"f", "sum", "abcde", long[:31], long[:32]} {
		for i := range len(text) {
			for _, b := range nameBytes {
				checkNameAt(t, text[:i]+string(b)+text[i+1:], i, byte(b))
			}
			for _, b := range []string{"\x00", " ", "-", "@", "[", "`", "{", "/", "(", "\"", "\x80", "\xff", "\xc1"} {
				if s := text[:i] + b + text[i+1:]; lex.IsName(s) {
					t.Errorf("P11.3: IsName(%s)", short(s))
				}
			}
		}
	}
	checkNone(t, strings.Repeat("a", 4000), api.ErrWord)
	checkNone(t, "A"+strings.Repeat("1", 32), api.ErrWord)
	// A cell's text has no limit of 32 bytes, but no cell's text is that long.
	checkNone(t, strings.Repeat("A", 32)+"1", api.ErrWord)
}

// checkNameAt checks a word of letters with b at place i.
func checkNameAt(t *testing.T, text string, i int, b byte) {
	t.Helper()
	letter := strings.IndexByte("AZazMm", b) >= 0
	ok := letter || i > 0 && b != '$'
	if lex.IsName(text) != ok {
		t.Errorf("P11.3: IsName(%s): %v", short(text), !ok)
	}
	switch digit := b == '0' || b == '9'; {
	case ok:
		checkWords(t, text, refWords(text)...)
	case i == 0 && (digit || b == '.'):
		if _, bad := lex.Tokens(text); len(text) > 1 && bad != (api.Mishap{Code: api.ErrWord}) {
			t.Errorf("P11.1: Tokens(%s): %v", short(text), bad)
		}
	default:
		checkNone(t, text, api.ErrWord)
	}
}

// P11.3: IsName, of each byte alone and of each two.
func TestIsName(t *testing.T) {
	form := regexp.MustCompile(`\A[A-Za-z][A-Za-z0-9_.]{0,31}\z`)
	if lex.IsName("") {
		t.Error("P11.3: IsName of nothing")
	}
	for a := range 256 {
		one := string([]byte{byte(a)})
		if lex.IsName(one) != form.MatchString(one) {
			t.Errorf("P11.3: IsName(%s): %v", short(one), lex.IsName(one))
		}
		for b := range 256 {
			two := string([]byte{byte(a), byte(b)})
			if lex.IsName(two) != form.MatchString(two) {
				t.Errorf("P11.3: IsName(%s): %v", short(two), lex.IsName(two))
			}
		}
	}
	for text, want := range map[string]bool{"SUM": true, "a.b_1": true, "1A": false, "$A": false, "A1": true, "A$1": false, "a ": false, " a": false, "a\n": false, "é": false, "aé": false, "ſ": false, "a.": true, "a_": true, "a..": true, "TRUE": true} {
		if lex.IsName(text) != want {
			t.Errorf("P11.3: IsName(%s): %v", short(text), !want)
		}
	}
	if lex.IsName(strings.Repeat("a", 1<<20)) {
		t.Error("P11.3: IsName of 2^20 letters")
	}
}

// P11.1: texts.
func TestTexts(t *testing.T) {
	for text, s := range map[string]string{
		`""`: "", `"a"`: "a", `""""`: `"`, `""""""`: `""`, `"a""b"`: `a"b`, `"""a"`: `"a`, `"a"""`: `a"`, `"a""""b"`: `a""b`, `"""a""b"""`: `"a"b"`, `" "`: " ", `"#REF!"`: "#REF!", `"1e999 ! ' $"`: "1e999 ! ' $", "\"\x00\"": "\x00", "\"\n\t\"": "\n\t", `"é"`: "é", `"😀"`: "😀", "\"\u00a0\"": "\u00a0", "\"\ufffd\"": "\ufffd", "\"\\\"": `\`, `"Aa"`: "Aa",
	} {
		checkWord(t, txt(0, text, s))
		n := len(text)
		checkWords(t, text+"&"+text, txt(0, text, s), sign(n, "&"), txt(n+1, text, s))
		checkWords(t, text+" "+text, txt(0, text, s), txt(n+1, text, s))
		checkWords(t, text+"A1", txt(0, text, s), ref(n, "A1", 1, 1, false, false))
		checkWords(t, text+"1", txt(0, text, s), num(n, "1", 1))
		checkWords(t, text+"(", txt(0, text, s), sign(n, "("))
		checkWords(t, "1"+text, num(0, "1", 1), txt(1, text, s))
		checkWords(t, "A1"+text, ref(0, "A1", 1, 1, false, false), txt(2, text, s))
		// Directly side by side they are one.
		checkWords(t, text+text, txt(0, text+text, s+`"`+s))
	}
}

// P11.1: texts without an end.
func TestOpenTexts(t *testing.T) {
	for _, text := range []string{`"`, `"a`, `"""`, `"a""`, `"""""`, `"a""b`, `" `, `"'`, "\"\xff", "\"\x00", `"a+1 `, `"a""b""`, `"` + strings.Repeat("a", 2000), "\"" + strings.Repeat("\xff", 2000), `"` + strings.Repeat(`""`, 1500), `"\`} {
		checkNoneAtEnd(t, text, api.ErrEnd)
	}
	checkMishap(t, `""&"`, api.ErrEnd, 3, txt(0, `""`, ""), sign(2, "&"))
	checkMishap(t, `"a" "`, api.ErrEnd, 4, txt(0, `"a"`, "a"))
	checkMishap(t, `"a" "b""`, api.ErrEnd, 4, txt(0, `"a"`, "a"))
	checkWords(t, `"\"`, txt(0, `"\"`, `\`))
	checkMishap(t, `"\""`, api.ErrEnd, 0)
}

// P11.1: texts that are no right UTF-8.
func TestBrokenTexts(t *testing.T) {
	for _, s := range []string{"\xff", "\x80", "a\xc3", "\xc3a", "\xe2\x82", "\xed\xa0\x80", "\xc0\x80", "\xf4\x90\x80\x80", "\xf8\x88\x80\x80\x80", "é\xa9", "ab\xfecd", "\xc3\"\"\xa9", "\"\"\xff", "\xff\"\"", strings.Repeat("\xff", 1024), strings.Repeat("\xff", 1025), strings.Repeat("a", 1024) + "\xff", strings.Repeat("a", 2000) + "\xc3"} {
		checkNone(t, `"`+s+`"`, api.ErrForm)
	}
}

// P11.1: how long a text may be between its quotes, one for each two.
func TestLongTextWords(t *testing.T) {
	for _, piece := range []string{"a", "\"\"", "é", "€", "😀", "\x00", " "} {
		bytes := strings.ReplaceAll(piece, `""`, `"`)
		n := 1024 / len(bytes)
		s := strings.Repeat(bytes, n)
		s += strings.Repeat("b", 1024-len(s))
		text := lex.Quote(s)
		checkWord(t, txt(0, text, s))
		checkNone(t, text[:len(text)-1]+`c"`, api.ErrLong)
		checkNone(t, text[:len(text)-1]+`"""`, api.ErrLong)
		checkNone(t, `"é`+text[1:], api.ErrLong)
	}
	checkNone(t, `"`+strings.Repeat("a", 3000)+`"`, api.ErrLong)
	checkNone(t, `"`+strings.Repeat(`""`, 1025)+`"`, api.ErrLong)
	checkMishap(t, `"`+strings.Repeat("a", 4094)+`"`, api.ErrLong, 0)
	checkMishap(t, `"`+strings.Repeat("a", 4095)+`"`, api.ErrLong, 0)
	checkMishap(t, `1 "`+strings.Repeat("a", 4092)+`"`, api.ErrLong, 2, num(0, "1", 1))
	// Beyond the whole's limit nothing of it is looked at, not its end either.
	checkMishap(t, `1 "`+strings.Repeat("a", 4094), api.ErrLong, 0)
}

// sizes are a text in all the sizes that its letters may have.
func sizes(text string) []string {
	l := []string{""}
	for _, c := range text {
		var longer []string
		for _, s := range l {
			longer = append(longer, s+string(c))
			if c >= 'A' && c <= 'Z' {
				longer = append(longer, s+strings.ToLower(string(c)))
			}
		}
		l = longer
	}
	return l
}

// P11.1, P11.5: faults.
func TestFaults(t *testing.T) {
	for i, f := range []string{"#DIV!", "#NUM!", "#VALUE!", "#REF!", "#NONE!"} {
		for _, text := range sizes(f) {
			n := len(text)
			w := fault(0, text, i+1)
			checkWord(t, w)
			checkWords(t, text+text, w, fault(n, text, i+1))
			checkWords(t, text+"A1", w, ref(n, "A1", 1, 1, false, false))
			checkWords(t, text+"1", w, num(n, "1", 1))
			checkWords(t, text+"(", w, sign(n, "("))
			checkWords(t, "1"+text, num(0, "1", 1), fault(1, text, i+1))
			checkMishap(t, text+"!", api.ErrWord, n, w)
		}
		for n := 1; n < len(f); n++ {
			checkNone(t, f[:n], api.ErrWord)
			checkNone(t, "#"+f[:n], api.ErrWord)
		}
		for n := 1; n < len(f); n++ {
			for _, b := range []string{"", "X", "x", "!", " ", "#", "1", "\x00", "\xff", "@", "é", "ı", "ſ"} {
				if s := f[:n] + b + f[n+1:]; !strings.HasPrefix(s, f) {
					checkNone(t, s, api.ErrWord)
				}
			}
			// One bit off: what a careless way of making capitals would let through.
			off := []byte(f)
			off[n] ^= 0x60
			checkNone(t, string(off), api.ErrWord)
			off[n] ^= 0x60 ^ 0x80
			checkNone(t, string(off), api.ErrWord)
		}
	}
	for _, text := range []string{"#", "#!", "##DIV!", "#N/A", "#DIV/0!", "#NAME?", "#NULL!", "#DIV?", "#VALUE", "#VAL!", "#NON!", "#1", "#A1", "# REF!", "#REF !", "#\"\"", "#dıv!", "#DİV!"} {
		checkNone(t, text, api.ErrWord)
	}
}

// allSigns are the signs, as the document has them.
func allSigns() []string {
	return strings.Fields("+ - * / ^ & % ( ) , : = <> < <= > >=")
}

// P11.1: each sign alone, and each two side by side.
func TestSigns(t *testing.T) {
	for _, a := range allSigns() {
		checkWord(t, sign(0, a))
		for _, b := range allSigns() {
			checkWords(t, a+" "+b, sign(0, a), sign(len(a)+1, b))
			two := a + b
			var want []lex.Token
			for at := 0; at < len(two); {
				n := 1
				if at+1 < len(two) && slices.Contains(allSigns(), two[at:at+2]) {
					n = 2
				}
				want = append(want, sign(at, two[at:at+n]))
				at += n
			}
			checkWords(t, two, want...)
		}
	}
	checkWords(t, "=<", sign(0, "="), sign(1, "<"))
	checkWords(t, "=>", sign(0, "="), sign(1, ">"))
	checkWords(t, "><", sign(0, ">"), sign(1, "<"))
	checkWords(t, "==", sign(0, "="), sign(1, "="))
	checkWords(t, "<<>>=", sign(0, "<"), sign(1, "<>"), sign(3, ">="))
	checkWords(t, "<>>", sign(0, "<>"), sign(2, ">"))
	checkWords(t, "<<", sign(0, "<"), sign(1, "<"))
	checkWords(t, "&&", sign(0, "&"), sign(1, "&"))
}

// P11.1: each byte alone.
func TestBytes(t *testing.T) {
	for i := range 256 {
		text := string([]byte{byte(i)})
		switch b := byte(i); {
		case strings.IndexByte(" \t\n\r", b) >= 0:
			checkWords(t, text)
		case b >= '0' && b <= '9':
			checkWord(t, num(0, text, float64(b-'0')))
		case b >= 'A' && b <= 'Z':
			checkWord(t, name(0, text, text))
		case b >= 'a' && b <= 'z':
			checkWord(t, name(0, text, string([]byte{b - 32})))
		case slices.Contains(allSigns(), text):
			checkWord(t, sign(0, text))
		case b == '"':
			checkNoneAtEnd(t, text, api.ErrEnd)
		default:
			checkNone(t, text, api.ErrWord)
			if b != '$' {
				checkNone(t, text+"A1", api.ErrWord)
			}
			checkMishap(t, "A1 "+text, api.ErrWord, 3, ref(0, "A1", 1, 1, false, false))
			checkMishap(t, `"a"`+text, api.ErrWord, 3, txt(0, `"a"`, "a"))
		}
	}
	for _, text := range []string{"é", "Ａ１", "１", "−1", "＋", "“a”", "ſum", "\u212a1", "α", "\xc3", "\xff\xfe", "'a'", "`", "{1}", "[1]", "@A1", "!", "?", ";", "\\", "|", "~"} {
		checkNone(t, text, api.ErrWord)
	}
	// A byte beyond those ends a word, and is none.
	checkMishap(t, "sumé", api.ErrWord, 3, name(0, "sum", "SUM"))
	checkMishap(t, "A1é(", api.ErrWord, 2, ref(0, "A1", 1, 1, false, false))
	checkMishap(t, "<é", api.ErrWord, 1, sign(0, "<"))
}

// P11.2, R5: an iterator is left early, gone over again, within itself, side by side.
func TestEach(t *testing.T) {
	const text = "1+A1*SUM(\"a\",#REF!)"
	all, _ := lex.Tokens(text)
	if len(all) != 10 {
		t.Fatalf("P11.1: Tokens(%s): %v", text, all)
	}
	seq := lex.Each(text)
	for n := range len(all) + 1 {
		var l []lex.Token
		for w := range seq {
			if len(l) == n {
				break
			}
			l = append(l, w)
		}
		if !same(l, all[:n]) {
			t.Errorf("P11.2: left behind %d: %v", n, l)
		}
	}
	if !same(gone(seq), all) {
		t.Errorf("P11.2: gone over again: %v", gone(seq))
	}
	i := 0
	for a := range seq {
		j := 0
		for b := range seq {
			if a != all[i] || b != all[j] {
				t.Errorf("P11.2: %v within %v", b, a)
			}
			j++
		}
		i++
	}
	if i != len(all) {
		t.Errorf("P11.2: %d words around the inner ones", i)
	}
	next, stop := iter.Pull(seq)
	first, _ := next()
	again, stopAgain := iter.Pull(seq)
	other, _ := again()
	second, _ := next()
	stopAgain()
	stop()
	if first != all[0] || other != all[0] || second != all[1] {
		t.Errorf("P11.2: pulled %v, %v, %v", first, other, second)
	}
}

// P11.2: it goes up to the first that is none, even when it is left just there, and is never nil.
func TestEachMishaps(t *testing.T) {
	for text, n := range map[string]int{"": 0, " ": 0, "!": 0, "1 !": 1, "1 2 !": 2, "1 2 ! 3 4": 2, "1 2 \"": 2, "1 2 1e999 3": 2, "1 2 \"\xff\" 3": 2, "1 2 3": 3, strings.Repeat(" ", 4097): 0, "1" + strings.Repeat(" ", 4096): 0} {
		seq := lex.Each(text)
		if seq == nil {
			t.Fatalf("R5: Each(%s) is nil", short(text))
		}
		for range 2 {
			if l := gone(seq); len(l) != n {
				t.Errorf("P11.2: Each(%s): %v", short(text), l)
			}
		}
		for range seq {
			break
		}
		seq(func(lex.Token) bool { return false })
	}
}

// R3: a list that was answered is new memory.
func TestOwnMemory(t *testing.T) {
	const text = "1+A1"
	a, _ := lex.Tokens(text)
	b, _ := lex.Tokens(text)
	want := slices.Clone(a)
	clear(a[:cap(a)])
	if c, _ := lex.Tokens(text); !same(b, want) || !same(c, want) {
		t.Errorf("R3: %v, %v; not %v", b, c, want)
	}
}

// P11.3: Quote.
func TestQuote(t *testing.T) {
	for s, want := range map[string]string{"": `""`, "a": `"a"`, `"`: `""""`, `""`: `""""""`, `a"b`: `"a""b"`, `"a"`: `"""a"""`, "\xff\"\x00": "\"\xff\"\"\x00\"", "é\n": "\"é\n\"", `\`: `"\"`, "'": `"'"`} {
		if got := lex.Quote(s); got != want {
			t.Errorf("P11.3: Quote(%s): %s", short(s), short(got))
		}
	}
	for b := range 256 {
		s := string([]byte{byte(b)})
		want := `"` + s + `"`
		if s == `"` {
			want = `""""`
		}
		if got := lex.Quote(s); got != want {
			t.Errorf("P11.3: Quote(%s): %s", short(s), short(got))
		}
	}
	long := strings.Repeat(`a"`, 1<<16)
	if got := lex.Quote(long); got != `"`+strings.Repeat(`a""`, 1<<16)+`"` {
		t.Error("P11.3: Quote of 2^17 bytes")
	}
}

// P11.5: what Quote tells alone is that text.
func TestQuoteReadBack(t *testing.T) {
	const signs = "a\"é \xff"
	for _, s := range all(signs, 5) {
		checkQuoted(t, s)
	}
	for _, n := range []int{1023, 1024, 1025, 1365, 1366, 2046, 2047, 2048, 4094, 4095, 4096} {
		checkQuoted(t, strings.Repeat("a", n))
		checkQuoted(t, strings.Repeat(`"`, n))
		checkQuoted(t, strings.Repeat(`a"`, n/2))
	}
}

// checkQuoted holds Quote(s) against what it must be read as.
func checkQuoted(t *testing.T, s string) {
	t.Helper()
	q := lex.Quote(s)
	switch {
	case len(q) > 4096 || utf8.ValidString(s) && len(s) > 1024:
		checkMishap(t, q, api.ErrLong, 0)
	case !utf8.ValidString(s):
		checkMishap(t, q, api.ErrForm, 0)
	default:
		checkWords(t, q, txt(0, q, s))
	}
}

var (
	blankForm   = regexp.MustCompile(`\A[ \t\n\r]+`)
	hexForm     = regexp.MustCompile(`\A0[xX](?:[0-9a-fA-F]+\.?[0-9a-fA-F]*|\.[0-9a-fA-F]+)(?:[pP][+-]?[0-9]+)?`)
	decimalForm = regexp.MustCompile(`\A(?:[0-9]+\.?[0-9]*|\.[0-9]+)(?:[eE][+-]?[0-9]+)?`)
	namedForm   = regexp.MustCompile(`\A[A-Za-z0-9_.$]+`)
	cellForm    = regexp.MustCompile(`\A(\$?)([A-Z]+)(\$?)([1-9][0-9]{0,3})\z`)
	nameForm    = regexp.MustCompile(`\A[A-Z][A-Z0-9_.]{0,31}\z`)
	textForm    = regexp.MustCompile(`(?s)\A"(?:[^"]|"")*"`)
	faultForm   = regexp.MustCompile(`\A#(?:[Dd][Ii][Vv]|[Nn][Uu][Mm]|[Vv][Aa][Ll][Uu][Ee]|[Rr][Ee][Ff]|[Nn][Oo][Nn][Ee])!`)
	signForm    = regexp.MustCompile(`\A(?:<>|<=|>=|[-+*/^&%(),:=<>])`)
)

// columns are the columns' letters, each with its number.
func columns() map[string]int {
	const abc = "ABCDEFGHIJKLMNOPQRSTUVWXYZ"
	l := strings.Split(abc, "")
	for _, a := range abc {
		for _, b := range abc {
			l = append(l, string(a)+string(b))
		}
	}
	m := make(map[string]int)
	for i, s := range l[:256] {
		m[s] = i + 1
	}
	return m
}

var columnOf = columns()

// reference is what Tokens must answer, and the words ahead of the mishap, by another way.
func reference(text string) ([]lex.Token, api.Mishap) {
	if len(text) > 4096 {
		return nil, api.Mishap{Code: api.ErrLong}
	}
	var l []lex.Token
	at := 0
	for {
		at += len(blankForm.FindString(text[at:]))
		if at == len(text) {
			return l, api.Mishap{}
		}
		w, err := refWord(text[at:])
		if err != api.OK {
			return l, api.Mishap{Code: err, At: at}
		}
		w.At = at
		l = append(l, w)
		at += len(w.Text)
	}
}

// refWords are the words alone.
func refWords(text string) []lex.Token {
	l, _ := reference(text)
	return l
}

func refWord(rest string) (lex.Token, api.Errno) {
	switch c := rest[0]; {
	case strings.IndexByte("0123456789.", c) >= 0:
		return refNumber(rest)
	case namedForm.MatchString(rest):
		return refNamed(rest)
	case c == '"':
		return refText(rest)
	case c == '#':
		w := faultForm.FindString(rest)
		if w == "" {
			return lex.Token{}, api.ErrWord
		}
		return fault(0, w, map[byte]int{'D': 1, 'V': 3, 'R': 4, 'N': 2, 'O': 5}[faultKey(w)]), api.OK
	}
	w := signForm.FindString(rest)
	if w == "" {
		return lex.Token{}, api.ErrWord
	}
	return sign(0, w), api.OK
}

// faultKey is the letter by which a fault is known: the first one, but O for #NONE!.
func faultKey(w string) byte {
	w = strings.ToUpper(w)
	if w[1] == 'N' && w[2] == 'O' {
		return 'O'
	}
	return w[1]
}

func refNumber(rest string) (lex.Token, api.Errno) {
	w := hexForm.FindString(rest)
	read := w
	if w == "" {
		w = decimalForm.FindString(rest)
		read = w
	} else if !strings.ContainsAny(w, "pP") {
		// The library's reader wants an exponent.
		read += "p0"
	}
	if w == "" || namedForm.MatchString(rest[len(w):]) {
		return lex.Token{}, api.ErrWord
	}
	x, err := strconv.ParseFloat(read, 64)
	if err != nil {
		return lex.Token{}, api.ErrOver
	}
	return num(0, w, x), api.OK
}

func refNamed(rest string) (lex.Token, api.Errno) {
	w := namedForm.FindString(rest)
	caps := strings.ToUpper(w)
	if m := cellForm.FindStringSubmatch(caps); m != nil && !strings.HasPrefix(rest[len(w):], "(") {
		row, _ := strconv.Atoi(m[4])
		if col := columnOf[m[2]]; col > 0 && row <= 4096 {
			return ref(0, w, col, row, m[1] != "", m[3] != ""), api.OK
		}
	}
	if !nameForm.MatchString(caps) {
		return lex.Token{}, api.ErrWord
	}
	return name(0, w, caps), api.OK
}

func refText(rest string) (lex.Token, api.Errno) {
	w := textForm.FindString(rest)
	// The form may leave off ahead of the second one of two, when there is no end behind them.
	if w == "" || strings.HasPrefix(rest[len(w):], `"`) {
		return lex.Token{}, api.ErrEnd
	}
	s := strings.ReplaceAll(w[1:len(w)-1], `""`, `"`)
	if !utf8.ValidString(s) {
		return lex.Token{}, api.ErrForm
	}
	if len(s) > 1024 {
		return lex.Token{}, api.ErrLong
	}
	return txt(0, w, s), api.OK
}

// all are the texts of at most n of some signs.
func all(signs string, n int) []string {
	l := []string{""}
	last := l
	for range n {
		var longer []string
		for _, s := range last {
			for i := 0; i < len(signs); {
				_, size := utf8.DecodeRuneInString(signs[i:])
				longer = append(longer, s+signs[i:i+size])
				i += size
			}
		}
		l = append(l, longer...)
		last = longer
	}
	return l
}

// checkText holds all that is told of a text against the reference.
func checkText(t *testing.T, text string) {
	t.Helper()
	if want, bad := reference(text); bad.Code == api.OK {
		checkWords(t, text, want...)
	} else {
		checkMishap(t, text, bad.Code, bad.At, want...)
	}
}

// P11.1, P11.2: all short texts of the bytes at which the document's words part.
func TestShortTexts(t *testing.T) {
	for _, text := range all("A1$.\"#(<>= eé_0", 4) {
		checkText(t, text)
	}
	for _, text := range all("0x1.p+eA ", 6) {
		checkText(t, text)
	}
	for _, text := range all("iV$14097(", 5) {
		checkText(t, text)
	}
	for _, text := range all("\"a \xff", 7) {
		checkText(t, text)
	}
	for a := range 256 {
		for b := range 256 {
			checkText(t, string([]byte{byte(a), byte(b)}))
			checkText(t, string([]byte{'A', '1', byte(a), byte(b)}))
		}
	}
}

// pieces are what random texts are put together from.
func pieces() []string {
	l := strings.Fields("1 0 7. .5 1e5 1e+ 2.5E-3 0x1f 0x1.8p-2 0x 1e999 1e-999 A1 $a$1 b$22 $Iv4096 IW1 A4097 ZZZ9 A1B LOG10 sum Sum.x _ a_b a$ TRUE NaN Inf \"\" \"a\" \"a\"\"b\" \" \"é\" #DIV! #nuM! #Value! #REF! #none! #ref # ! ; é $ . ( (")
	l = append(l, allSigns()...)
	return append(l, " ", " ", "  ", "\t", "\n", "\r", "\x0b", "\xff", "\"\xff\"", strings.Repeat("n", 31), strings.Repeat("n", 32), strings.Repeat("n", 33))
}

// randomText is a text of up to n pieces; few of them are bad, so that many a text is words throughout.
func randomText(r *rand.Rand, l []string, n int) string {
	var b strings.Builder
	for range r.Intn(n + 1) {
		b.WriteString(l[r.Intn(len(l))])
		if r.Intn(3) > 0 {
			b.WriteByte(" \t\n\r"[r.Intn(4)])
		}
	}
	return b.String()
}

// P11.1, P11.2, P11.5: texts at random.
func TestRandomTexts(t *testing.T) {
	r := rand.New(rand.NewSource(11))
	l := pieces()
	for range 40000 {
		checkText(t, randomText(r, l, 12))
	}
	for range 40 {
		checkText(t, randomText(r, l[:1], 3000))
		checkText(t, randomText(r, []string{"SUM(", "A1", "1", `"a"`, "<=", "#REF!"}, 1500))
	}
}

// goodPieces are words, each by itself.
func goodPieces() []string {
	var l []string
	for _, s := range append(pieces(), "A1(", "log10(", "iv1(", "iw1(") {
		if _, bad := lex.Tokens(s); bad.Code == api.OK {
			l = append(l, s)
		}
	}
	return l
}

// isCellName tells whether a word is a name just because of the bracket behind it.
func isCellName(w lex.Token) bool {
	alone := refWords(w.Text)
	return w.Kind == lex.Name && len(alone) == 1 && alone[0].Kind == lex.Ref
}

// placed are words without their places.
func placed(l []lex.Token) []lex.Token {
	l = slices.Clone(l)
	for i := range l {
		l[i].At = 0
	}
	return l
}

// P11.4: the words' texts, with blanks between them, have the same words.
func TestWordsParted(t *testing.T) {
	r := rand.New(rand.NewSource(114))
	good := goodPieces()
	done := 0
	for range 20000 {
		text := randomText(r, good, 10)
		l, bad := lex.Tokens(text)
		if bad.Code != api.OK {
			continue
		}
		done++
		var b strings.Builder
		for i, w := range l {
			b.WriteString(w.Text)
			if i+1 < len(l) && isCellName(w) && l[i+1].Text == "(" {
				continue
			}
			b.WriteString([]string{" ", "\t", "\n", "\r", "  \r\n"}[r.Intn(5)])
		}
		parted, bad := lex.Tokens(b.String())
		if bad.Code != api.OK || !same(placed(parted), placed(l)) {
			t.Errorf("P11.4: %s is %s, parted %s is %s, %v", short(text), told(l), short(b.String()), told(parted), bad)
		}
	}
	if done < 2000 {
		t.Errorf("just %d texts were words throughout", done)
	}
	for _, c := range []struct {
		text string
		kind int
	}{{"A1", lex.Ref}, {"iV4096", lex.Ref}, {"log10", lex.Name}, {"iw1", lex.Name}, {"sum", lex.Name}} {
		l, _ := lex.Tokens(c.text + "(1)")
		parted, _ := lex.Tokens(c.text + " (1)")
		if len(l) != 4 || l[0].Kind != lex.Name {
			t.Errorf("P11.4: %s(1): %s", c.text, told(l))
		}
		if len(parted) != 4 || parted[0].Kind != c.kind {
			t.Errorf("P11.4: %s (1): %s", c.text, told(parted))
		}
	}
}

// P11.5: small letters and capitals make the same refs and names.
func TestSizes(t *testing.T) {
	for _, text := range []string{"A1", "$IV$40", "AB$3", "SUM", "LOG10(", "A1(", "A_B.C9", "ZZZ9", "A1B"} {
		want, bad := lex.Tokens(text)
		if bad.Code != api.OK {
			t.Fatalf("P11.1: Tokens(%s): %v", text, bad)
		}
		for _, s := range sizes(text) {
			l, bad := lex.Tokens(s)
			if bad.Code != api.OK || len(l) != len(want) || l[0].Kind != want[0].Kind || l[0].Ref != want[0].Ref || l[0].S != want[0].S || l[0].Text != s[:len(want[0].Text)] {
				t.Errorf("P11.5: %s: %v, %v; not %v", s, l, bad, want)
			}
		}
	}
}
