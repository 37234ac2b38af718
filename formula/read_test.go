package formula_test

import (
	"fmt"
	"math"
	"math/rand"
	"slices"
	"strconv"
	"strings"
	"testing"

	"quadrille/api"
	"quadrille/formula"
	"quadrille/lex"
)

// checkRead checks that a text is read as a formula, in new memory.
func checkRead(t *testing.T, text string, want api.Node) {
	t.Helper()
	n, bad := formula.Parse(text)
	if bad != (api.Mishap{}) || told(n) != told(want) {
		t.Errorf("P12.2: Parse(%s): %s, %v; not %s", short(text), short(told(n)), bad, short(told(want)))
		return
	}
	if err := formula.Check(n); err != api.OK {
		t.Errorf("P12.2: Check of Parse(%s): %d", short(text), err)
	}
	checkApart(t, "Parse("+text+")", n)
}

// checkMishap checks that a text has a mishap, and no node beside it.
func checkMishap(t *testing.T, text string, code api.Errno, place int) {
	t.Helper()
	n, bad := formula.Parse(text)
	if bad != (api.Mishap{Code: code, At: place}) {
		t.Errorf("P12.2: Parse(%s): %v; not %d at %d", short(strconv.Quote(text)), bad, code, place)
	}
	if told(n) != "0" || n.Args != nil {
		t.Errorf("R2: Parse(%s): %s beside a mishap", short(text), short(told(n)))
	}
}

func TestParseExamples(t *testing.T) {
	checkRead(t, "1+2*3", bin(api.OpAdd, num(1), bin(api.OpMul, num(2), num(3))))
	checkRead(t, "(1+2)*3", bin(api.OpMul, bin(api.OpAdd, num(1), num(2)), num(3)))
	checkRead(t, "-2^2", un(api.OpMinus, bin(api.OpPower, num(2), num(2))))
	checkRead(t, "2^-1", bin(api.OpPower, num(2), un(api.OpMinus, num(1))))
	checkRead(t, "2^-1^2", bin(api.OpPower, bin(api.OpPower, num(2), un(api.OpMinus, num(1))), num(2)))
	checkRead(t, "-50%", un(api.OpMinus, un(api.OpPercent, num(50))))
	checkRead(t, "1-2-3", bin(api.OpSub, bin(api.OpSub, num(1), num(2)), num(3)))
	checkRead(t, "--5%", un(api.OpMinus, un(api.OpMinus, un(api.OpPercent, num(5)))))
	checkRead(t, "1<2=TRUE", bin(api.OpEq, bin(api.OpLt, num(1), num(2)), truth(true)))
	checkRead(t, `a1&"x"`, bin(api.OpJoin, ref(1, 1), txt("x")))
	checkRead(t, "sum(B2:$a$1, 3)", call("SUM", area(fixed(1, 1, true, true), at(2, 2)), num(3)))
	for text, place := range map[string]int{"sum(A1:B2+1)": 9, "A1:B2": 2, "1 2": 2, "*": 0, "sum(,1)": 4, "sqrt+1": 4, "TRUE()": 4} {
		checkMishap(t, text, api.ErrSyntax, place)
	}
	for text, place := range map[string]int{"(1": 2, "1+": 2, "": 0} {
		checkMishap(t, text, api.ErrEnd, place)
	}
	checkMishap(t, "foo(1)", api.ErrName, 0)
	checkMishap(t, "sqrt()", api.ErrCount, 0)
	checkMishap(t, "sqrt(1,2)+foo", api.ErrCount, 0)
	checkMishap(t, "1"+strings.Repeat("+1", 32), api.ErrDeep, 0)
}

// P12.2: each word that is a part by itself.
func TestOnes(t *testing.T) {
	for text, n := range map[string]api.Node{
		"0": num(0), "7": num(7), ".5": num(0.5), "1e3": num(1000), "0x10": num(16), "1e-400": num(0), "1.7976931348623157e308": num(math.MaxFloat64),
		`""`: txt(""), `"a""b"`: txt(`a"b`), `"é"`: txt("é"), `"+"`: txt("+"), `"("`: txt("("), `"TRUE"`: txt("TRUE"), `"` + strings.Repeat("x", 1024) + `"`: txt(strings.Repeat("x", 1024)),
		"#DIV!": fault(1), "#num!": fault(2), "#Value!": fault(3), "#REF!": fault(4), "#none!": fault(5),
		"A1": ref(1, 1), "iv4096": ref(256, 4096), "$b$7": {Kind: 5, Ref: fixed(2, 7, true, true)}, "B$7": {Kind: 5, Ref: fixed(2, 7, false, true)}, "$B7": {Kind: 5, Ref: fixed(2, 7, true, false)},
		"TRUE": truth(true), "true": truth(true), "True": truth(true), "tRuE": truth(true), "FALSE": truth(false), "false": truth(false), "falsE": truth(false),
		"NA()": call("NA"), "na( )": call("NA"), "Na ()": call("NA"),
	} {
		checkRead(t, text, n)
		checkRead(t, " \t"+text+"\r\n", n)
		checkRead(t, "("+text+")", n)
		checkRead(t, "(("+text+" ) )", n)
		checkRead(t, "-"+text, un(api.OpMinus, n))
		checkRead(t, text+"%", un(api.OpPercent, n))
		checkRead(t, text+"="+text, bin(api.OpEq, n, n))
		checkRead(t, "sum("+text+","+text+")", call("SUM", n, n))
		checkMishap(t, text+" "+text, api.ErrSyntax, len(text)+1)
		checkMishap(t, text+" 1", api.ErrSyntax, len(text)+1)
		checkMishap(t, text+" (", api.ErrSyntax, len(text)+1)
		checkMishap(t, text+" :", api.ErrSyntax, len(text)+1)
		checkMishap(t, text+" foo", api.ErrSyntax, len(text)+1)
		checkMishap(t, text+" sum", api.ErrSyntax, len(text)+1)
		checkMishap(t, text+" TRUE", api.ErrSyntax, len(text)+1)
		checkMishap(t, text+")", api.ErrSyntax, len(text))
		checkMishap(t, text+",", api.ErrSyntax, len(text))
	}
	// Negative noughts and numbers come by a sign alone.
	checkRead(t, "-0", un(api.OpMinus, num(0)))
	checkRead(t, "-1e-400", un(api.OpMinus, num(0)))
}

// The signs between two parts, from the loosest level on.
var between = []struct {
	sign      string
	op, level int
}{
	{"=", 10, 1}, {"<>", 11, 1}, {"<", 12, 1}, {"<=", 13, 1}, {">", 14, 1}, {">=", 15, 1}, {"&", 9, 2}, {"+", 4, 3}, {"-", 5, 3}, {"*", 6, 4}, {"/", 7, 4}, {"^", 8, 6},
}

// P12.2: which sign binds tighter, and that equal ones go to the left.
func TestLevels(t *testing.T) {
	one, two, three := num(1), num(2), num(3)
	for _, a := range between {
		checkRead(t, "1"+a.sign+"2", bin(a.op, one, two))
		checkRead(t, "1"+a.sign+"-2", bin(a.op, one, un(2, two)))
		checkRead(t, "1"+a.sign+"+-+2", bin(a.op, one, un(1, un(2, un(1, two)))))
		checkRead(t, "1%"+a.sign+"2%%", bin(a.op, un(3, one), un(3, un(3, two))))
		checkRead(t, "(1)"+a.sign+"(2)", bin(a.op, one, two))
		if a.level < 5 {
			checkRead(t, "-1"+a.sign+"2", bin(a.op, un(2, one), two))
		} else {
			checkRead(t, "-1"+a.sign+"2", un(2, bin(a.op, one, two)))
			checkRead(t, "+-1"+a.sign+"2", un(1, un(2, bin(a.op, one, two))))
		}
		checkRead(t, "(-1)"+a.sign+"2", bin(a.op, un(2, one), two))
		checkRead(t, "(1"+a.sign+"2)%", un(3, bin(a.op, one, two)))
		for _, b := range between {
			text := "1" + a.sign + "2" + b.sign + "3"
			left, right := bin(b.op, bin(a.op, one, two), three), bin(a.op, one, bin(b.op, two, three))
			if b.level > a.level {
				checkRead(t, text, right)
			} else {
				checkRead(t, text, left)
			}
			checkRead(t, "(1"+a.sign+"2)"+b.sign+"3", left)
			checkRead(t, "1"+a.sign+"(2"+b.sign+"3)", right)
			checkSigned(t, a.sign, a.op, a.level, b.sign, b.op, b.level)
		}
	}
}

// checkSigned checks three parts with a sign ahead of the middle one.
func checkSigned(t *testing.T, a string, aOp, aLevel int, b string, bOp, bLevel int) {
	t.Helper()
	one, two, three := num(1), num(2), num(3)
	text := "1" + a + "-2" + b + "3"
	switch {
	case aLevel == 6 && bLevel == 6:
		// Behind a `^` the sign binds tighter than the next one.
		checkRead(t, text, bin(bOp, bin(aOp, one, un(2, two)), three))
	case bLevel == 6:
		checkRead(t, text, bin(aOp, one, un(2, bin(bOp, two, three))))
	case bLevel > aLevel:
		checkRead(t, text, bin(aOp, one, bin(bOp, un(2, two), three)))
	default:
		checkRead(t, text, bin(bOp, bin(aOp, one, un(2, two)), three))
	}
}

// P12.2: signs ahead, `%` behind, `^` with signs behind it.
func TestSigns(t *testing.T) {
	x := ref(1, 1)
	pow := func(a, b api.Node) api.Node { return bin(8, a, b) }
	for text, want := range map[string]api.Node{
		"+A1": un(1, x), "-A1": un(2, x), "+-A1": un(1, un(2, x)), "-+A1": un(2, un(1, x)), "- - + A1": un(2, un(2, un(1, x))),
		"A1%": un(3, x), "A1%%": un(3, un(3, x)), "-A1%": un(2, un(3, x)), "(-A1)%": un(3, un(2, x)), "-(A1%)": un(2, un(3, x)), "(A1%)%": un(3, un(3, x)), "+-A1% %": un(1, un(2, un(3, un(3, x)))),
		"A1^A1": pow(x, x), "A1^A1^A1": pow(pow(x, x), x), "A1^(A1^A1)": pow(x, pow(x, x)), "A1^-A1": pow(x, un(2, x)), "A1^+-A1": pow(x, un(1, un(2, x))), "A1^-A1^A1": pow(pow(x, un(2, x)), x), "A1^-A1^-A1": pow(pow(x, un(2, x)), un(2, x)),
		"-A1^A1": un(2, pow(x, x)), "-A1^-A1": un(2, pow(x, un(2, x))), "(-A1)^A1": pow(un(2, x), x), "A1^-(A1^A1)": pow(x, un(2, pow(x, x))), "A1^(-A1^A1)": pow(x, un(2, pow(x, x))), "-A1%^A1": un(2, pow(un(3, x), x)), "A1^A1%": pow(x, un(3, x)), "(A1^A1)%": un(3, pow(x, x)), "A1^-A1%": pow(x, un(2, un(3, x))), "A1%^A1%": pow(un(3, x), un(3, x)), "A1%^-A1%^A1": pow(pow(un(3, x), un(2, un(3, x))), x),
		"A1--A1": bin(5, x, un(2, x)), "A1-+-A1": bin(5, x, un(1, un(2, x))), "A1+A1%": bin(4, x, un(3, x)), "A1%-A1": bin(5, un(3, x), x), "A1%%*A1": bin(6, un(3, un(3, x)), x), "A1*-A1*A1": bin(6, bin(6, x, un(2, x)), x), "A1*-A1^A1": bin(6, x, un(2, pow(x, x))), "A1*-A1+A1": bin(4, bin(6, x, un(2, x)), x), "A1=-A1=A1": bin(10, bin(10, x, un(2, x)), x), "A1<=-A1": bin(13, x, un(2, x)), "A1<>+A1": bin(11, x, un(1, x)), "A1&-A1&A1": bin(9, bin(9, x, un(2, x)), x),
		"-sum(A1)^2": un(2, pow(call("SUM", x), num(2))), "sum(A1)%": un(3, call("SUM", x)), "-(1)": un(2, num(1)), "-TRUE": un(2, truth(true)), "TRUE%": un(3, truth(true)), `-"a"`: un(2, txt("a")), "-#REF!%": un(2, un(3, fault(4))),
	} {
		checkRead(t, text, want)
		checkRead(t, "("+text+")", want)
		checkRead(t, "IF("+text+","+text+")", call("IF", want, want))
	}
}

// signWords are all signs that there are.
var signWords = strings.Fields("+ - * / ^ & % ( ) , : = <> < <= > >=")

// P12.2: each sign beside each other one, on both sides, alone, in calls and in parentheses.
func TestSignsBeside(t *testing.T) {
	frames := [][2]string{{"", ""}, {"1 ", ""}, {"", " 1"}, {"1 ", " 1"}, {"A1 ", " A1"}, {"sum( ", ""}, {"sum( ", " )"}, {"sum( A1 ", " )"}, {"sum( A1 ", " A1 )"}, {"sum( 1 ", " 1 )"}, {"sum( 1 , ", " A1 )"}, {"( 1 ", " 1 )"}, {"sum( ( A1 ", " A1 ) )"}, {"sum ", " 1 )"}, {"TRUE ", " TRUE"}, {"- 1 ", " - 1"}, {"1 % ", " 1 %"}, {"sum( 1 ) ", " sum( 1 )"}, {"sum( A1 : A1 ", " A1 )"}, {"sum( A1 ", " A1 : A1 )"}}
	for _, a := range signWords {
		for _, f := range frames {
			checkReference(t, f[0]+a+f[1])
		}
		for _, b := range signWords {
			for _, f := range frames {
				checkReference(t, f[0]+a+" "+b+f[1])
			}
			for _, c := range signWords {
				for _, f := range frames[:12] {
					checkReference(t, f[0]+a+" "+b+" "+c+f[1])
				}
			}
		}
	}
}

// P12.2: areas by their corners, in each order, fixed or not.
func TestAreas(t *testing.T) {
	marks := []bool{false, true}
	for _, cols := range [][2]int{{1, 2}, {2, 1}, {3, 3}, {1, 256}, {256, 1}} {
		for _, rows := range [][2]int{{1, 2}, {2, 1}, {5, 5}, {1, 4096}, {4096, 1}} {
			for i := range 16 {
				first := fixed(cols[0], rows[0], marks[i&1], marks[i>>1&1])
				second := fixed(cols[1], rows[1], marks[i>>2&1], marks[i>>3&1])
				from, to := first, second
				if cols[1] < cols[0] {
					from.Addr.Col, from.ColFixed = cols[1], second.ColFixed
					to.Addr.Col, to.ColFixed = cols[0], first.ColFixed
				}
				if rows[1] < rows[0] {
					from.Addr.Row, from.RowFixed = rows[1], second.RowFixed
					to.Addr.Row, to.RowFixed = rows[0], first.RowFixed
				}
				text := cellText(first) + ":" + cellText(second)
				want := area(from, to)
				checkRead(t, "SUM("+text+")", call("SUM", want))
				checkRead(t, "sum("+strings.ToLower(text)+")", call("SUM", want))
				checkRead(t, "IF(1,"+text+", "+text+" )", call("IF", num(1), want, want))
				checkMishap(t, text, api.ErrSyntax, len(cellText(first)))
			}
		}
	}
	checkRead(t, "SUM($B3:A$1)", call("SUM", area(fixed(1, 1, false, true), fixed(2, 3, true, false))))
	checkRead(t, "SUM(B$3:$A1)", call("SUM", area(fixed(1, 1, true, false), fixed(2, 3, false, true))))
	checkRead(t, "SUM($A1:A$1)", call("SUM", area(fixed(1, 1, true, false), fixed(1, 1, false, true))))
	checkRead(t, "SUM(A1:A1)", call("SUM", area(at(1, 1), at(1, 1))))
	checkRead(t, "SUM(A$3:$A1)", call("SUM", area(at(1, 1), fixed(1, 3, true, true))))
}

// cellText is a cell of the columns 1 to 3 and 256.
func cellText(r api.Ref) string {
	mark := map[bool]string{true: "$"}
	return mark[r.ColFixed] + map[int]string{1: "A", 2: "B", 3: "C", 256: "IV"}[r.Addr.Col] + mark[r.RowFixed] + strconv.Itoa(r.Addr.Row)
}

// P12.2: where areas can stand, and where none can.
func TestAreasRead(t *testing.T) {
	a := area(at(1, 1), at(2, 2))
	checkRead(t, "sqrt(A1:B2)", call("SQRT", a))
	checkRead(t, "sum( A1 : B2 )", call("SUM", a))
	checkRead(t, "sum(A1\t:\nB2,A1:B2,A1)", call("SUM", a, a, ref(1, 1)))
	checkRead(t, "sum(sum(A1:B2),A1:B2)", call("SUM", call("SUM", a), a))
	checkRead(t, "1+sum(A1:B2)%", bin(4, num(1), un(3, call("SUM", a))))
	for text, place := range map[string]int{
		"A1:B2": 2, " A1 : B2": 4, "(A1:B2)": 3, "-A1:B2": 3, "1+A1:B2": 4, "A1:B2+1": 2, "A1%:B2": 3,
		"sum((A1:B2))": 7, "sum(+A1:B2)": 7, "sum(-A1:B2)": 7, "sum(1+A1:B2)": 8, "sum(1,2&A1:B2)": 10, "sum(A1%:B2)": 7, "sum(A1^B2:C3)": 9, "sum(A1,(B2:C3))": 10, "sum((A1):B2)": 8,
		"sum(A1:B2+1)": 9, "sum(A1:B2%)": 9, "sum(A1:B2 1)": 10, "sum(A1:B2:C3)": 9, "sum(A1:B2 (": 10, "sum(A1:B2(": 7, "sum(A1:B2^2)": 9, "sum(A1:B2=1)": 9, "sum(A1:B2 A1)": 10, "sum(A1:B2 foo)": 10,
		"sum(A1:1)": 7, "sum(A1:TRUE)": 7, "sum(A1:foo)": 7, "sum(A1:sum(1))": 7, "sum(A1:\"B2\")": 7, "sum(A1:(B2))": 7, "sum(A1:+B2)": 7, "sum(A1::B2)": 7, "sum(A1:)": 7, "sum(A1:,1)": 7, "sum(A1:#REF!)": 7,
		"sum(1:2)": 5, "sum(TRUE:A1)": 8, "sum(:A1)": 4, "sum(1,:A1)": 6, "sum(\"A1\":B2)": 8, "sum(#REF!:B2)": 9, "sum(sum(1):B2)": 10, "sum(1:": 5,
	} {
		checkMishap(t, text, api.ErrSyntax, place)
	}
	for _, text := range []string{"sum(A1", "sum(A1:", "sum(A1:B2", "sum(A1:B2,", "sum(A1:B2 ", "sum(A1: ", "sum(1,A1:"} {
		checkMishap(t, text, api.ErrEnd, len(text))
	}
	// A `(` directly behind a corner makes a name of it.
	checkMishap(t, "sum(A1:B2())", api.ErrSyntax, 7)
	checkMishap(t, "sum(A1(:B2)", api.ErrName, 4)
}

// P12.2: truths, functions' names, and names that are none.
func TestNames(t *testing.T) {
	for text, place := range map[string]int{
		"TRUE()": 4, "false()": 5, "TRUE(1)": 4, "TRUE (": 5, "true 1": 5, "TRUE TRUE": 5, "TRUE:FALSE": 4, "TRUE foo": 5,
		"sqrt+1": 4, "sqrt 1": 5, "sum": -1, "1+sum": -1, "sqrt)": 4, "sum,": 3, "sum sum": 4, "sum foo": 4, "sum TRUE": 4, "sum A1": 4, "sum%": 3, "sum:A1": 3, "IF(sum,foo)": 6, "sum\"a\"": 3, "sum=1": 3,
		"1 foo": 2, "A1 foo": 3, "(1 foo)": 3, "1% foo": 3, "sum(1) foo": 7, "sum(1 foo)": 6, "(1)foo": 3, "\"a\"foo": 3, "sum(A1:foo)": 7, "1 sum(1)": 2, "A1 (2)": 3, "A1 ()": 3,
	} {
		if place < 0 {
			checkMishap(t, text, api.ErrEnd, len(text))
		} else {
			checkMishap(t, text, api.ErrSyntax, place)
		}
	}
	for text, place := range map[string]int{
		"foo": 0, "foo(1)": 0, "foo(": 0, "foo)": 0, "foo+": 0, "foo 1": 0, "foo foo": 0, " foo": 1, "1+foo": 2, "-foo": 1, "2^foo": 2, "(foo": 1, "sum(foo": 4, "sum(1,foo": 6, "sum(foo,": 4, "1=foo(": 2, "1&-foo": 3,
		"A1(2)": 0, "A1()": 0, "a1(": 0, "1+B2(": 2, "sum(A1(1))": 4, "SUMX(1)": 0, "TRUEX": 0, "TRU": 0, "FALSE1": 0, "T": 0, "x": 0, "_": -1, "LOG10(2)": 0, "log10(2)": 0, "IF(foo)": 3, "SUM.1(1)": 0,
		"IW1": 0, "A0": 0, "A4097+1": 0, "sum(A1,IW1)": 7, "sum(IW1:A1)": 4,
	} {
		if place < 0 {
			checkMishap(t, text, api.ErrWord, 0)
		} else {
			checkMishap(t, text, api.ErrName, place)
		}
	}
}

// mixed is a name in letters of both sizes.
func mixed(name string) string {
	b := []byte(strings.ToLower(name))
	for i := range b {
		if i%2 == 1 {
			b[i] -= 32
		}
	}
	return string(b)
}

// P12.2: calls of each function, with fewer and more Args than it takes.
func TestCallsRead(t *testing.T) {
	for name, c := range counted {
		for n := range 6 {
			args := strings.Join(slices.Repeat([]string{"1"}, n), ",")
			ones := slices.Repeat([]api.Node{num(1)}, n)
			for _, s := range []string{name, strings.ToLower(name), mixed(name)} {
				if n < c[0] || n > c[1] {
					checkMishap(t, s+"("+args+")", api.ErrCount, 0)
					checkMishap(t, " 1+("+s+" ( "+args+")", api.ErrCount, 4)
					checkMishap(t, "sum("+s+"("+args+")", api.ErrCount, 4)
					checkMishap(t, "sqrt("+s+"("+args+"),1", api.ErrCount, 5)
				} else {
					checkRead(t, s+"("+args+")", call(name, ones...))
					checkRead(t, "-"+s+" ( "+args+" ) ", un(2, call(name, ones...)))
					checkRead(t, "sum("+s+"("+args+"),"+s+"("+args+"))", call("SUM", call(name, ones...), call(name, ones...)))
				}
				checkMishap(t, s+"("+args, api.ErrEnd, len(s)+1+len(args))
			}
		}
		args := strings.Repeat("1,", 256) + "1"
		checkMishap(t, name+"("+args+")", api.ErrCount, 0)
		checkMishap(t, name+"("+args, api.ErrEnd, len(name)+1+len(args))
		checkMishap(t, name+"("+args+"+foo)", api.ErrName, len(name)+1+len(args)+1)
		checkMishap(t, name+"("+args+" 1)", api.ErrSyntax, len(name)+1+len(args)+1)
	}
	for text, place := range map[string]int{
		"sum(,)": 4, "sum(,1)": 4, "sum(1,)": 6, "sum(1,,2)": 6, "sum(1 2)": 6, "sum((1,2))": 6, "sum(1;": -1, "sum(1))": 6, "sum()": -2, "na(,)": 3, "na(1)": -2, "(1,2)": 2, "1,2": 1, "sum(1)(2)": 6, "sum(1)sum(2)": 6, "sum(*1)": 4, "sum()1": -2, "na()na()": 4, "na()(": 4, "sum(%)": 4, "sum(1+)": 6, "sum(1,-)": 7, "sum(()": 5, "sum((1)": -3,
	} {
		switch place {
		case -1:
			checkMishap(t, text, api.ErrWord, 5)
		case -2:
			checkMishap(t, text, api.ErrCount, 0)
		case -3:
			checkMishap(t, text, api.ErrEnd, len(text))
		default:
			checkMishap(t, text, api.ErrSyntax, place)
		}
	}
}

// P12.2: which mishap comes first, where there are several.
func TestWhichMishap(t *testing.T) {
	for _, row := range []struct {
		text  string
		code  api.Errno
		place int
	}{
		// Lex's own come ahead of all that is read.
		{"* ?", api.ErrWord, 2}, {"foo ?", api.ErrWord, 4}, {"sqrt() 1e999", api.ErrOver, 7}, {"1 2 \"a", api.ErrEnd, 4}, {"foo(\"\xff\")", api.ErrForm, 4}, {"1 2 \"" + strings.Repeat("x", 1025) + "\"", api.ErrLong, 4}, {"?? !!", api.ErrWord, 0}, {"1A", api.ErrWord, 0}, {"1+#foo!", api.ErrWord, 2}, {strings.Repeat("1+", 300) + "?", api.ErrWord, 600}, {"(((((\"", api.ErrEnd, 5},
		// As one reads on from the left.
		{"* foo", api.ErrSyntax, 0}, {"foo *", api.ErrName, 0}, {"1 2 foo", api.ErrSyntax, 2}, {"1+foo 2 3", api.ErrName, 2}, {"sqrt()foo", api.ErrCount, 0}, {"sqrt(foo", api.ErrName, 5}, {"sqrt(1,2,foo)", api.ErrName, 9}, {"sqrt(1,2 3)", api.ErrSyntax, 9}, {"sqrt(1,2", api.ErrEnd, 8}, {"sqrt(1,2)*", api.ErrCount, 0}, {"sqrt(1,2))", api.ErrCount, 0}, {"sqrt(1,2) 3", api.ErrCount, 0}, {"1+sqrt(sqrt(),2)", api.ErrCount, 7}, {"mid(sqrt(1),abs(1,2)", api.ErrCount, 12}, {"sqrt(1))foo", api.ErrSyntax, 7}, {"sqrt foo()", api.ErrSyntax, 5}, {"sum(1,A1:B2+foo", api.ErrSyntax, 11}, {"sum(1,A1:foo)", api.ErrSyntax, 9}, {"na(1)+na(", api.ErrCount, 0}, {"na(1", api.ErrEnd, 4}, {"abs(1,2,na(1))", api.ErrCount, 8}, {"abs(1,2,na())", api.ErrCount, 0}, {"1+(2*(3 4))+foo", api.ErrSyntax, 8}, {")foo", api.ErrSyntax, 0}, {"(foo)", api.ErrName, 1}, {"foo:bar", api.ErrName, 0},
		// Many and deep ones come last of all.
		{strings.Repeat("1+", 300) + "foo", api.ErrName, 600}, {strings.Repeat("1+", 300), api.ErrEnd, 600}, {strings.Repeat("1+", 300) + "1 1", api.ErrSyntax, 602}, {strings.Repeat("-", 300) + "sqrt()", api.ErrCount, 300}, {strings.Repeat("-", 300) + "1", api.ErrMany, 0}, {strings.Repeat("-", 100) + "1", api.ErrDeep, 0}, {" " + strings.Repeat("-", 100) + "1", api.ErrDeep, 0}, {strings.Repeat("1+", 100) + "1)", api.ErrSyntax, 201},
	} {
		checkMishap(t, row.text, row.code, row.place)
	}
}

// P12.2: how long, how many, how deep.
func TestParseLimits(t *testing.T) {
	blanks := strings.Repeat(" ", 4097)
	checkMishap(t, "", api.ErrEnd, 0)
	for _, n := range []int{1, 2, 100, 4095, 4096} {
		checkMishap(t, blanks[:n], api.ErrEnd, n)
		checkMishap(t, strings.Repeat("(", n), api.ErrEnd, n)
		checkMishap(t, strings.Repeat("-", n), api.ErrEnd, n)
		checkMishap(t, strings.Repeat(")", n), api.ErrSyntax, 0)
		checkMishap(t, strings.Repeat("%", n), api.ErrSyntax, 0)
	}
	checkMishap(t, blanks, api.ErrLong, 0)
	checkMishap(t, "?"+blanks, api.ErrLong, 0)
	checkMishap(t, strings.Repeat("1", 4097), api.ErrLong, 0)
	checkMishap(t, strings.Repeat("(", 1<<20), api.ErrLong, 0)
	checkMishap(t, "*"+blanks[:4096], api.ErrLong, 0)
	checkRead(t, "1"+blanks[:4095], num(1))
	checkRead(t, blanks[:4095]+"1", num(1))
	checkRead(t, strings.Repeat("0", 4095)+"1", num(1))
	checkMishap(t, blanks[:4095]+"*", api.ErrSyntax, 4095)
	checkMishap(t, "1+"+blanks[:4094], api.ErrEnd, 4096)
	for _, n := range []int{1, 31, 32, 33, 255, 256, 257, 2047} {
		checkRead(t, strings.Repeat("(", n)+"1"+strings.Repeat(")", n), num(1))
		checkMishap(t, strings.Repeat("(", n)+"1"+strings.Repeat(")", n-1), api.ErrEnd, 2*n)
		checkMishap(t, strings.Repeat("(", n-1)+"1"+strings.Repeat(")", n), api.ErrSyntax, 2*n-1)
		checkMishap(t, strings.Repeat("sum(", n/2), api.ErrEnd, n/2*4)
	}
	for _, n := range []int{31, 32, 255, 256, 4000} {
		for _, text := range []string{strings.Repeat("-", n) + "1", "1" + strings.Repeat("%", n), "1^" + strings.Repeat("+", n-1) + "1"} {
			switch {
			case n <= 31:
				if _, bad := formula.Parse(text); bad != (api.Mishap{}) {
					t.Errorf("P12.2: Parse(%s): %v", short(text), bad)
				}
			case n <= 254:
				checkMishap(t, text, api.ErrDeep, 0)
			case n == 255:
				checkMishap(t, text, map[bool]api.Errno{true: api.ErrMany, false: api.ErrDeep}[strings.Contains(text, "^")], 0)
			default:
				checkMishap(t, text, api.ErrMany, 0)
			}
		}
	}
	ones := slices.Repeat([]api.Node{num(1)}, 255)
	checkRead(t, "SUM("+strings.Repeat("1,", 254)+"1)", call("SUM", ones...))
	checkMishap(t, "SUM("+strings.Repeat("1,", 255)+"1)", api.ErrMany, 0)
	checkMishap(t, "SUM("+strings.Repeat("1,", 256)+"1)", api.ErrCount, 0)
	checkMishap(t, "SUM("+strings.Repeat("1,", 2045)+"1)", api.ErrCount, 0)
	checkRead(t, "1"+strings.Repeat("+1", 31), sumOf(32))
	checkMishap(t, "1"+strings.Repeat("+1", 32), api.ErrDeep, 0)
	checkMishap(t, "1"+strings.Repeat("+1", 127), api.ErrDeep, 0)
	checkMishap(t, "1"+strings.Repeat("+1", 128), api.ErrMany, 0)
	checkMishap(t, "1"+strings.Repeat("+1", 2047), api.ErrMany, 0)
	checkDeepCalls(t)
}

// sumOf is the sum of n ones, to the left.
func sumOf(n int) api.Node {
	s := num(1)
	for range n - 1 {
		s = bin(4, s, num(1))
	}
	return s
}

// checkDeepCalls checks calls within one another, and both limits at once.
func checkDeepCalls(t *testing.T) {
	t.Helper()
	n := num(1)
	for range 31 {
		n = call("ABS", n)
	}
	checkRead(t, strings.Repeat("abs(", 31)+"1"+strings.Repeat(")", 31), n)
	checkMishap(t, strings.Repeat("abs(", 32)+"1"+strings.Repeat(")", 32), api.ErrDeep, 0)
	checkMishap(t, strings.Repeat("abs(", 256)+"1"+strings.Repeat(")", 256), api.ErrMany, 0)
	checkMishap(t, strings.Repeat("abs(", 800)+"1"+strings.Repeat(")", 800), api.ErrMany, 0)
	checkMishap(t, strings.Repeat("abs(", 800)+strings.Repeat(")", 800), api.ErrCount, 4*799)
	both := func(nodes, deep int) string {
		return "SUM(" + strings.Repeat("1,", nodes-deep) + strings.Repeat("-", deep-2) + "1)"
	}
	if _, bad := formula.Parse(both(256, 32)); bad != (api.Mishap{}) {
		t.Errorf("P12.2: 256 nodes, 32 deep: %v", bad)
	}
	checkMishap(t, both(257, 32), api.ErrMany, 0)
	checkMishap(t, both(256, 33), api.ErrDeep, 0)
	checkMishap(t, both(257, 33), api.ErrMany, 0)
}

// state is where a reader stands that knows the grammar as a list of what may follow what.
type state int

const (
	wanting state = iota // a part is wanted
	having               // a part stands there
	naming               // a function's name stands there
	corner               // an area's `:` stands there
	filled               // an area stands there
)

// open is a `(` that waits for its `)`: of a call, if name is not empty.
type open struct {
	name       string
	place      int
	args       int
	justOpened bool
}

// follow is the first mishap as one reads on from the left.
func follow(words []lex.Token, end int) api.Mishap {
	now := wanting
	var stack []*open
	argBegins, colonMay := false, false
	for _, w := range words {
		var top *open
		if len(stack) > 0 {
			top = stack[len(stack)-1]
		}
		inCall := top != nil && top.name != ""
		begins := argBegins
		argBegins = false
		empty := top != nil && top.justOpened
		if top != nil {
			top.justOpened = false
		}
		colon := colonMay
		colonMay = false
		stuck := api.Mishap{Code: api.ErrSyntax, At: w.At}
		switch closes := w.Text == ")" && top != nil && (now == having || now == filled || now == wanting && inCall && empty); {
		case closes:
			stack = stack[:len(stack)-1]
			if inCall {
				if now != wanting {
					top.args++
				}
				if c := counted[top.name]; top.args < c[0] || top.args > c[1] {
					return api.Mishap{Code: api.ErrCount, At: top.place}
				}
			}
			now = having
		case w.Text == "," && inCall && (now == having || now == filled):
			top.args++
			now, argBegins = wanting, true
		case now == wanting && (w.Text == "+" || w.Text == "-"):
		case now == wanting && w.Text == "(":
			stack = append(stack, &open{})
		case now == wanting && w.Kind == lex.Name && !isTruth(w.S):
			if !isFunction(w.S) {
				return api.Mishap{Code: api.ErrName, At: w.At}
			}
			stack = append(stack, &open{name: w.S, place: w.At})
			now = naming
		case now == wanting && w.Kind != lex.Sign:
			now, colonMay = having, begins && w.Kind == lex.Ref
		case now == having && w.Text == "%":
		case now == having && w.Text == ":" && colon:
			now = corner
		case now == having && isBetween(w.Text):
			now = wanting
		case now == naming && w.Text == "(":
			top.justOpened = true
			now, argBegins = wanting, true
		case now == corner && w.Kind == lex.Ref:
			now = filled
		default:
			return stuck
		}
	}
	if now != having || len(stack) > 0 {
		return api.Mishap{Code: api.ErrEnd, At: end}
	}
	return api.Mishap{}
}

func isTruth(name string) bool { return name == "TRUE" || name == "FALSE" }

func isBetween(sign string) bool {
	for _, b := range between {
		if b.sign == sign {
			return true
		}
	}
	return false
}

// cut is the last place outside of parentheses where a sign of that level stands between two parts, and its operation; -1, if there is none.
func cut(w []lex.Token, level int) (int, int) {
	depth := 0
	for i := len(w) - 1; i > 0; i-- {
		switch w[i].Text {
		case ")":
			depth++
		case "(":
			depth--
		}
		ahead := w[i-1]
		parted := ahead.Kind != lex.Sign || ahead.Text == ")" || ahead.Text == "%"
		if depth != 0 || !parted {
			continue
		}
		for _, b := range between {
			if b.sign == w[i].Text && b.level == level {
				return i, b.op
			}
		}
	}
	return -1, 0
}

// tree is the formula of words that have no mishap: cut at its loosest sign, the last one first.
func tree(w []lex.Token) api.Node {
	for _, level := range []int{1, 2, 3, 4} {
		if i, op := cut(w, level); i >= 0 {
			return bin(op, tree(w[:i]), tree(w[i+1:]))
		}
	}
	last := len(w) - 1
	if w[0].Text == "+" || w[0].Text == "-" {
		return un(map[string]int{"+": 1, "-": 2}[w[0].Text], tree(w[1:]))
	}
	if i, op := cut(w, 6); i >= 0 {
		return bin(op, tree(w[:i]), tree(w[i+1:]))
	}
	switch first := w[0]; {
	case w[last].Text == "%":
		return un(3, tree(w[:last]))
	case first.Text == "(":
		return tree(w[1:last])
	case first.Kind == lex.Number:
		return num(first.X)
	case first.Kind == lex.Text:
		return txt(first.S)
	case first.Kind == lex.Fault:
		return fault(first.F)
	case first.Kind == lex.Ref:
		return api.Node{Kind: 5, Ref: first.Ref}
	case isTruth(first.S):
		return truth(first.S == "TRUE")
	}
	return call(w[0].S, argTrees(w[2:last])...)
}

// argTrees are a call's Args, cut at the `,` outside of parentheses.
func argTrees(w []lex.Token) []api.Node {
	if len(w) == 0 {
		return nil
	}
	depth := 0
	for i, t := range w {
		switch t.Text {
		case "(":
			depth++
		case ")":
			depth--
		case ",":
			if depth == 0 {
				return append([]api.Node{argTree(w[:i])}, argTrees(w[i+1:])...)
			}
		}
	}
	return []api.Node{argTree(w)}
}

// argTree is one of them.
func argTree(w []lex.Token) api.Node {
	if len(w) != 3 || w[1].Text != ":" {
		return tree(w)
	}
	a, b := w[0].Ref, w[2].Ref
	n := area(a, b)
	if a.Addr.Col > b.Addr.Col {
		n.Ref.Addr.Col, n.Ref.ColFixed, n.To.Addr.Col, n.To.ColFixed = b.Addr.Col, b.ColFixed, a.Addr.Col, a.ColFixed
	}
	if a.Addr.Row > b.Addr.Row {
		n.Ref.Addr.Row, n.Ref.RowFixed, n.To.Addr.Row, n.To.RowFixed = b.Addr.Row, b.RowFixed, a.Addr.Row, a.RowFixed
	}
	return n
}

// reference is what Parse must answer.
func reference(text string) (api.Node, api.Mishap) {
	words, bad := lex.Tokens(text)
	if bad != (api.Mishap{}) {
		return api.Node{}, bad
	}
	if bad := follow(words, len(text)); bad != (api.Mishap{}) {
		return api.Node{}, bad
	}
	n := tree(words)
	if err := reckoned(n); err != api.OK {
		return api.Node{}, api.Mishap{Code: err}
	}
	return n, api.Mishap{}
}

// checkReference holds Parse against the reference, and tells which error came.
func checkReference(t *testing.T, text string) api.Errno {
	t.Helper()
	want, mishap := reference(text)
	n, bad := formula.Parse(text)
	if bad != mishap || told(n) != told(want) {
		t.Errorf("P12.2: Parse(%s): %s, %v; not %s, %v", short(strconv.Quote(text)), short(told(n)), bad, short(told(want)), mishap)
	}
	return mishap.Code
}

// checkAllWords checks all texts of at most n of these words. Behind a word that can't stand there just one more is laid: it changes nothing.
func checkAllWords(t *testing.T, words string, n int) {
	t.Helper()
	met := map[api.Errno]int{}
	l := strings.Fields(words)
	var grow func(text string, left int, stuck bool)
	grow = func(text string, left int, stuck bool) {
		code := checkReference(t, text)
		met[code]++
		if left == 0 || stuck {
			return
		}
		for _, w := range l {
			grow(text+w+" ", left-1, code != api.OK && code != api.ErrEnd)
		}
	}
	grow("", n, false)
	if met[api.OK] < 10 || met[api.ErrSyntax] < 50 || met[api.ErrEnd] < 50 {
		t.Errorf("%s: just %v", words, met)
	}
}

// P12.2: all short texts of some words.
func TestAllShortTexts(t *testing.T) {
	checkAllWords(t, "1 A1 \"a\" #REF! TRUE foo sum sqrt na + - * / ^ & % ( ) , : = <> < <= > >=", 3)
	checkAllWords(t, "1 A1 TRUE foo sum sqrt na + ^ % ( ) , :", 5)
	checkAllWords(t, "1 A1 sum ( ) , : -", 7)
	checkAllWords(t, "1 - ^ % * (", 6)
	checkAllWords(t, "1 - + & < ^ % )", 5)
	checkAllWords(t, "sum( A1 : , )", 9)
	checkAllWords(t, "abs( na( if( 1 , )", 7)
	checkAllWords(t, "( 1 ) % -", 8)
}

// randomText is a text that came by chance; most of them are read.
func randomText(r *rand.Rand, deep int) string {
	gap := func() string { return strings.Repeat(" ", r.Intn(8)/7) }
	if deep <= 1 {
		ones := []string{"1", "2.5", "A1", "$b$2", "C$3", "TRUE", "false", `"a"`, `"("`, "#REF!", "0", "na()", "sum(A1:B2)", "Max($B3:A$1,1)"}
		return ones[r.Intn(len(ones))]
	}
	part := func() string { return randomText(r, deep-1-r.Intn(2)) }
	switch r.Intn(10) {
	case 0, 1, 2, 3:
		b := between[r.Intn(len(between))]
		return part() + gap() + b.sign + gap() + part()
	case 4, 5:
		return []string{"+", "-"}[r.Intn(2)] + gap() + part()
	case 6:
		return part() + gap() + "%"
	case 7, 8:
		return "(" + gap() + part() + gap() + ")"
	}
	names := []string{"SUM", "if", "Sqrt", "mid", "AND", "round", "foo", "na"}
	args := []string{}
	for range r.Intn(4) {
		if r.Intn(3) == 0 {
			args = append(args, []string{"A1:B2", "$B$2:A1", "C3 : $A9"}[r.Intn(3)])
		} else {
			args = append(args, part())
		}
	}
	return names[r.Intn(len(names))] + gap() + "(" + strings.Join(args, gap()+","+gap()) + ")"
}

// spoiled is a text with words taken out, put in, or one in another one's place.
func spoiled(r *rand.Rand, text string) string {
	words, bad := lex.Tokens(text)
	if bad != (api.Mishap{}) || len(words) == 0 {
		return text
	}
	pool := append(strings.Fields("1 A1 foo sum sqrt( TRUE A1:B2 1e999 ? \"a 2x"), signWords...)
	i := r.Intn(len(words))
	from, to := words[i].At, words[i].At+len(words[i].Text)
	word := " " + pool[r.Intn(len(pool))] + " "
	switch r.Intn(4) {
	case 0:
		return text[:from] + text[to:]
	case 1:
		return text[:from] + word + text[from:]
	case 2:
		return text[:from] + word + text[to:]
	}
	return text[:from]
}

// P12.2: many texts that came by chance, as they are and spoiled.
func TestParseAtRandom(t *testing.T) {
	r := rand.New(rand.NewSource(122))
	met := map[api.Errno]int{}
	for range 20000 {
		text := randomText(r, 1+r.Intn(9))
		met[checkReference(t, text)]++
		text = spoiled(r, text)
		met[checkReference(t, text)]++
		met[checkReference(t, spoiled(r, text))]++
	}
	for _, err := range []api.Errno{api.OK, api.ErrSyntax, api.ErrEnd, api.ErrName, api.ErrCount, api.ErrWord} {
		if met[err] < 500 {
			t.Errorf("%d came just %d times of %v", err, met[err], met)
		}
	}
}

// P12.2, R1: bytes that came by chance.
func TestAnyBytes(t *testing.T) {
	r := rand.New(rand.NewSource(129))
	for range 20000 {
		b := make([]byte, r.Intn(12))
		for i := range b {
			if r.Intn(5) == 0 {
				b[i] = byte(r.Intn(256))
			} else {
				b[i] = "1A(),:+-*/^&%=<>.\"# aNA$"[r.Intn(24)]
			}
		}
		checkReference(t, string(b))
	}
}

// inText is a formula that may be as a text, with all its parts but areas in parentheses, more than once at times.
func inText(r *rand.Rand, n api.Node) string {
	var s string
	switch n.Kind {
	case 1:
		s = strconv.FormatFloat(n.X, 'g', -1, 64)
	case 2:
		s = lex.Quote(n.S)
	case 3:
		s = strings.ToUpper(fmt.Sprint(n.B))
	case 4:
		s = []string{"#DIV!", "#NUM!", "#VALUE!", "#REF!", "#NONE!"}[n.F-1]
	case 5:
		s = cellText(n.Ref)
	case 6:
		return cellText(n.Ref) + ":" + cellText(n.To)
	case 7:
		s = []string{"+", "-"}[n.Op&1^1] + inText(r, n.Args[0])
		if n.Op == 3 {
			s = inText(r, n.Args[0]) + "%"
		}
	case 8:
		for _, b := range between {
			if b.op == n.Op {
				s = inText(r, n.Args[0]) + b.sign + inText(r, n.Args[1])
			}
		}
	case 9:
		var l []string
		for _, a := range n.Args {
			l = append(l, inText(r, a))
		}
		s = n.S + "(" + strings.Join(l, ",") + ")"
	}
	for range 1 + r.Intn(3)/2 {
		s = "(" + s + ")"
	}
	return s
}

// P12.2, P12.5: what is written with parentheses around each part is read as that formula.
func TestThereAndBack(t *testing.T) {
	r := rand.New(rand.NewSource(126))
	found := 0
	for range 30000 {
		n := randomNode(r, 1+r.Intn(5))
		if formula.Check(n) != api.OK {
			continue
		}
		found++
		checkRead(t, inText(r, n), n)
	}
	if found < 5000 {
		t.Errorf("just %d formulas may be", found)
	}
}

// again is a text with more blanks between its words, and names and cells in letters of other sizes.
func again(r *rand.Rand, text string, blanks, letters bool) string {
	words, _ := lex.Tokens(text)
	var b strings.Builder
	for i, w := range words {
		s := w.Text
		if letters && (w.Kind == lex.Name || w.Kind == lex.Ref) {
			s = strings.Map(func(c rune) rune {
				if r.Intn(2) == 0 {
					return []rune(strings.ToUpper(string(c)))[0]
				}
				return []rune(strings.ToLower(string(c)))[0]
			}, s)
		}
		if blanks && i > 0 {
			b.WriteString(strings.Repeat([]string{" ", "\t", "\n", "\r"}[r.Intn(4)], r.Intn(3)))
		}
		b.WriteString(s)
		if i+1 < len(words) {
			b.WriteString(text[w.At+len(w.Text) : words[i+1].At])
		}
	}
	if blanks {
		return " " + b.String() + "\n"
	}
	return b.String()
}

// P12.5: blanks more, letters of another size, a pair of parentheses more change nothing.
func TestReadFollows(t *testing.T) {
	r := rand.New(rand.NewSource(127))
	found := 0
	for range 20000 {
		text := randomText(r, 1+r.Intn(8))
		n, bad := formula.Parse(text)
		if bad != (api.Mishap{}) {
			continue
		}
		found++
		for _, other := range []string{"(" + text + ")", "((" + text + "))", again(r, text, true, false), again(r, text, false, true), again(r, text, true, true)} {
			m, bad := formula.Parse(other)
			if bad != (api.Mishap{}) || told(m) != told(n) {
				t.Errorf("P12.5: Parse(%q) is %s, Parse(%q) %s, %v", text, short(told(n)), other, short(told(m)), bad)
			}
		}
	}
	if found < 5000 {
		t.Errorf("just %d texts are read", found)
	}
	// Just as long as may be, and one more.
	inner := strings.Repeat(" ", 4093) + "1"
	checkRead(t, "("+inner+")", num(1))
	checkMishap(t, "("+inner+" )", api.ErrLong, 0)
}
