package calls_test

import (
	"math"
	"strings"
	"testing"

	"quadrille/api"
	"quadrille/calls"
)

// P15.2: functions of values, one by one.

func TestNumbers(t *testing.T) {
	checkRows(t, "P15.2", []row{
		{"ABS", of(minus), 0}, {"ABS", of(-inf), inf}, {"ABS", of(other), nan}, {"ABS", of("-2"), 2}, {"ABS", of(nil), 0}, {"ABS", of(true), 1}, {"ABS", of(-tiny), tiny}, {"ABS", of(-most), most}, {"ABS", of(3.5), 3.5}, {"ABS", of("x"), noVal}, {"ABS", of(noRef), noRef}, {"ABS", of(ar{1}), noVal}, {"ABS", of(ar{}), noVal}, {"ABS", of(ar{noRef}), noVal},
		{"SIGN", of(minus), 0}, {"SIGN", of(0), 0}, {"SIGN", of(-7), -1}, {"SIGN", of(tiny), 1}, {"SIGN", of(-tiny), -1}, {"SIGN", of(inf), 1}, {"SIGN", of(-inf), -1}, {"SIGN", of(nan), nan}, {"SIGN", of(other), nan}, {"SIGN", of(true), 1}, {"SIGN", of(nil), 0}, {"SIGN", of("-0"), 0}, {"SIGN", of(ar{5}), noVal},
		{"INT", of(-0.5), -1}, {"INT", of(0.5), 0}, {"INT", of(minus), minus}, {"INT", of(tiny), 0}, {"INT", of(-tiny), -1}, {"INT", of(2.999), 2}, {"INT", of(-3), -3}, {"INT", of(0x1p60), 0x1p60}, {"INT", of(inf), inf}, {"INT", of(-inf), -inf}, {"INT", of(nan), noNum}, {"INT", of(other), noNum}, {"INT", of("2.5"), 2}, {"INT", of(nil), 0}, {"INT", of(-most), -most},
		{"TRUNC", of(-0.5), minus}, {"TRUNC", of(2.9), 2}, {"TRUNC", of(-2.9), -2}, {"TRUNC", of(-tiny), minus}, {"TRUNC", of(nan), noNum}, {"TRUNC", of(-inf), -inf}, {"TRUNC", of(inf), inf}, {"TRUNC", of(true), 1}, {"TRUNC", of(ar{1}), noVal},
		{"MOD", of(-7, 3), 2}, {"MOD", of(5, -3), -1}, {"MOD", of(6, -3), minus}, {"MOD", of(1, 0), div}, {"MOD", of(1, minus), div}, {"MOD", of(nan, 0), nan}, {"MOD", of(inf, 2), nan}, {"MOD", of(1, nil), div}, {"MOD", of("7", true), 0}, {"MOD", of(noNum, ar{1}), noNum}, {"MOD", of(ar{1}, noNum), noVal}, {"MOD", of("x", noRef), noVal}, {"MOD", of(noRef, "x"), noRef}, {"MOD", of(1, "x"), noVal},
		{"POWER", of(2, 10), 1024}, {"POWER", of(2, 65), noNum}, {"POWER", of(2, 64), 0x1p64}, {"POWER", of(0, -1), div}, {"POWER", of(0, 0), 1}, {"POWER", of(nan, 0), nan}, {"POWER", of(2, 0.5), math.Sqrt2}, {"POWER", of(-1, 0.5), noNum}, {"POWER", of(10, -2), 0.01}, {"POWER", of(1e10, 64), noNum}, {"POWER", of(2, 1.5), noNum}, {"POWER", of(nil, nil), 1}, {"POWER", of(div, noRef), div}, {"POWER", of(1, noRef), noRef},
		{"SQRT", of(4), 2}, {"SQRT", of(-1), noNum}, {"SQRT", of(-tiny), noNum}, {"SQRT", of(minus), minus}, {"SQRT", of(2), math.Sqrt2}, {"SQRT", of(inf), inf}, {"SQRT", of(-inf), noNum}, {"SQRT", of(other), nan}, {"SQRT", of("16"), 4}, {"SQRT", of(ar{4}), noVal},
		{"FUSED", of(0.1, 10, -1), 0x1p-54}, {"FUSED", of(2, 3, 4), 10}, {"FUSED", of(2, 4, 3), 11}, {"FUSED", of(most, 2, 0), noNum}, {"FUSED", of(most, 2, -most), most}, {"FUSED", of(0, inf, 1), nan}, {"FUSED", of(1, 1, -1), 0}, {"FUSED", of(minus, 1, minus), minus}, {"FUSED", of(nil, nil, 7), 7}, {"FUSED", of(div, noRef, noNum), div}, {"FUSED", of(1, noRef, noNum), noRef}, {"FUSED", of(1, 1, noNum), noNum}, {"FUSED", of(1, ar{1}, noNum), noVal}, {"FUSED", of(1, 1, ar{1}), noVal},
		{"VALUE", of("0x10"), 16}, {"VALUE", of("x"), noVal}, {"VALUE", of(""), noVal}, {"VALUE", of("1e999"), noVal}, {"VALUE", of("TRUE"), noVal}, {"VALUE", of(nil), 0}, {"VALUE", of(true), 1}, {"VALUE", of(false), 0}, {"VALUE", of("-0"), minus}, {"VALUE", of(minus), minus}, {"VALUE", of(other), nan}, {"VALUE", of(-inf), -inf}, {"VALUE", of(noRef), noRef}, {"VALUE", of(ar{1}), noVal}, {"VALUE", of("1e-400"), 0},
	})
}

func TestRounded(t *testing.T) {
	checkRows(t, "P15.2", []row{
		{"ROUND", of(2.5, 0), 3}, {"ROUND", of(-2.5, 0), -3}, {"ROUND", of(2.675, 2), 2.67}, {"ROUND", of(0.125, 2), 0.13}, {"ROUND", of(1234.5, -2), 1200}, {"ROUND", of(1250, -2), 1300}, {"ROUND", of(-0.4, 0), minus}, {"ROUND", of(1.005, 2), 1}, {"ROUND", of(2.4, nil), 2}, {"ROUND", of("2.5", "0"), 3}, {"ROUND", of(0.25, true), 0.3},
		{"ROUNDEVEN", of(2.5, 0), 2}, {"ROUNDEVEN", of(3.5, 0), 4}, {"ROUNDEVEN", of(-2.5, 0), -2}, {"ROUNDEVEN", of(1250, -2), 1200}, {"ROUNDEVEN", of(0.125, 2), 0.12}, {"ROUNDEVEN", of(2.51, 0), 3},
		{"ROUNDDOWN", of(2.9, 0), 2}, {"ROUNDDOWN", of(-2.9, 0), -2}, {"ROUNDDOWN", of(-0.9, 0), minus}, {"ROUNDDOWN", of(1299, -2), 1200}, {"ROUNDDOWN", of(-1299, -2), -1200},
		{"ROUNDUP", of(2.1, 0), 3}, {"ROUNDUP", of(-2.1, 0), -3}, {"ROUNDUP", of(tiny, 0), 1}, {"ROUNDUP", of(-tiny, 0), -1}, {"ROUNDUP", of(tiny, 30), 1e-30}, {"ROUNDUP", of(-tiny, 30), -1e-30}, {"ROUNDUP", of(minus, 0), minus}, {"ROUNDUP", of(0, 3), 0}, {"ROUNDUP", of(1, -30), 1e30}, {"ROUNDUP", of(-1, -30), -1e30}, {"ROUNDUP", of(2, 0), 2}, {"ROUNDUP", of(most, -30), most},
	})
	// The number nearest to 10^30 is a little above it.
	checkRows(t, "P15.2", []row{
		{"ROUND", of(1e30, -30), 1e30}, {"ROUNDEVEN", of(1e30, -30.99), 1e30}, {"ROUNDDOWN", of(1e30, -30), 1e30}, {"ROUNDUP", of(1e30, -30), 2e30}, {"ROUNDUP", of(-1e30, -30.99), -2e30},
	})
	for _, name := range []string{"ROUND", "ROUNDEVEN", "ROUNDDOWN", "ROUNDUP"} {
		checkRows(t, "P15.2", []row{
			{name, of(1, 30), 1}, {name, of(1, 30.99), 1}, {name, of(1, 31), noNum}, {name, of(0, -30), 0}, {name, of(minus, -30.99), minus}, {name, of(0, -31), noNum}, {name, of(5, -0.9), 5}, {name, of(5, 0.9), 5},
			{name, of(1, 0x1p63), noNum}, {name, of(1, 0x1p62), noNum}, {name, of(1, -0x1p63), noNum}, {name, of(1, 0x1p32), noNum}, {name, of(1, -0x1p32), noNum}, {name, of(1, 256), noNum}, {name, of(1, nan), noNum}, {name, of(1, inf), noNum}, {name, of(1, -inf), noNum}, {name, of(1, 1e300), noNum},
			{name, of(nan, 0), noNum}, {name, of(other, 0), noNum}, {name, of(inf, 0), noNum}, {name, of(-inf, 0), noNum}, {name, of(nan, 99), noNum},
			{name, of(div, noRef), div}, {name, of("x", div), noVal}, {name, of(nan, div), div}, {name, of(inf, "x"), noVal}, {name, of(1, "x"), noVal}, {name, of(1, ar{1}), noVal}, {name, of(ar{1}, div), noVal}, {name, of(div, ar{1}), div}, {name, of(div, nan), div},
		})
	}
}

func TestSingle(t *testing.T) {
	tie := 0x1.ffffffp127
	checkRows(t, "P15.2", []row{
		{"SINGLE", of(0.1), 0x1.99999ap-4}, {"SINGLE", of(1e300), noNum}, {"SINGLE", of(-1e300), noNum}, {"SINGLE", of(math.MaxFloat32), math.MaxFloat32}, {"SINGLE", of(math.Nextafter(tie, 0)), math.MaxFloat32}, {"SINGLE", of(tie), noNum}, {"SINGLE", of(-tie), noNum}, {"SINGLE", of(-math.Nextafter(tie, 0)), -math.MaxFloat32}, {"SINGLE", of(0x1p128), noNum},
		{"SINGLE", of(0x1p-149), 0x1p-149}, {"SINGLE", of(0x1p-150), 0}, {"SINGLE", of(-0x1p-150), minus}, {"SINGLE", of(math.Nextafter(0x1p-150, 1)), 0x1p-149}, {"SINGLE", of(tiny), 0}, {"SINGLE", of(0x1.8p-149), 0x1p-148}, {"SINGLE", of(0x1p-126), 0x1p-126},
		{"SINGLE", of(inf), inf}, {"SINGLE", of(-inf), -inf}, {"SINGLE", of(nan), nan}, {"SINGLE", of(other), nan}, {"SINGLE", of(minus), minus}, {"SINGLE", of(0x1.000001p0), 1}, {"SINGLE", of(0x1.000003p0), 0x1.000004p0}, {"SINGLE", of(16777217), 16777216}, {"SINGLE", of("0.1"), 0x1.99999ap-4}, {"SINGLE", of(nil), 0}, {"SINGLE", of(true), 1}, {"SINGLE", of(noRef), noRef}, {"SINGLE", of(ar{1}), noVal},
	})
}

func TestTold(t *testing.T) {
	checkRows(t, "P15.2", []row{
		{"IF", of(true, 1, div), 1}, {"IF", of(0, 1), false}, {"IF", of(noNum, 1, 2), noNum}, {"IF", of(false, 1, nil), nil}, {"IF", of(true, ar{1}, 2), noVal}, {"IF", of(true, nil), nil}, {"IF", of(nil, 1, 2), 2}, {"IF", of("TRUE", 1), 1}, {"IF", of("false", 1, "b"), "b"}, {"IF", of("x", 1, 2), noVal}, {"IF", of("1", 1, 2), noVal}, {"IF", of(nan, 1, 2), noNum}, {"IF", of(other, div, div), noNum}, {"IF", of(ar{true}, 1, 2), noVal}, {"IF", of(ar{}, div, noRef), noVal},
		{"IF", of(true, ar{1}, div), noVal}, {"IF", of(false, ar{1}, 5), 5}, {"IF", of(false, div), false}, {"IF", of(true, 1, ar{div}), 1}, {"IF", of(false, ar{noRef}), false}, {"IF", of(false, 1, noRef), noRef}, {"IF", of(true, div, noRef), div}, {"IF", of(div, noRef, noNum), div}, {"IF", of(minus, 1), false}, {"IF", of(tiny, "a"), "a"}, {"IF", of(true, other), nan}, {"IF", of(false, 1, other), nan}, {"IF", of(true, minus), minus}, {"IF", of(true, false, true), false}, {"IF", of(true, "", 1), ""}, {"IF", of(false, div, ar{1}), noVal}, {"IF", of("x", div), noVal},
		{"IFERROR", of(div, 2), 2}, {"IFERROR", of(1, div), 1}, {"IFERROR", of(div, noNum), noNum}, {"IFERROR", of(ar{1}, "x"), "x"}, {"IFERROR", of(nan, 2), nan}, {"IFERROR", of(other, div), nan}, {"IFERROR", of(nil, 1), nil}, {"IFERROR", of("x", div), "x"}, {"IFERROR", of(ar{1}, ar{1}), noVal}, {"IFERROR", of(div, ar{1}), noVal}, {"IFERROR", of(1, ar{1}), 1}, {"IFERROR", of(div, nil), nil}, {"IFERROR", of(div, other), nan}, {"IFERROR", of(ar{div}, noRef), noRef}, {"IFERROR", of(minus, 1), minus}, {"IFERROR", of(false, 1), false}, {"IFERROR", of("", 1), ""},
		{"CHOOSE", of(3, 1, 2), noVal}, {"CHOOSE", of(1, "a", "b"), "a"}, {"CHOOSE", of(2, "a", "b"), "b"}, {"CHOOSE", of(2.9, div, "x"), "x"}, {"CHOOSE", of(0, 1), noVal}, {"CHOOSE", of(0.9, 1), noVal}, {"CHOOSE", of(-1, 1), noVal}, {"CHOOSE", of(-0.5, div), noVal}, {"CHOOSE", of(1e300, 1), noNum}, {"CHOOSE", of(nan, 1), noNum}, {"CHOOSE", of(inf, 1), noNum}, {"CHOOSE", of(0x1p63, 1), noNum}, {"CHOOSE", of(-0x1p63, 1), noVal}, {"CHOOSE", of(0x1p62, 1), noVal}, {"CHOOSE", of(0x1p32+1, 7, 8), noVal}, {"CHOOSE", of(-0x1p32+1, 7, 8), noVal},
		{"CHOOSE", of("1", 5), 5}, {"CHOOSE", of(true, 5), 5}, {"CHOOSE", of(nil, 5), noVal}, {"CHOOSE", of(noRef, div), noRef}, {"CHOOSE", of("x", div), noVal}, {"CHOOSE", of(ar{1}, 5), noVal}, {"CHOOSE", of(1, 5, div), 5}, {"CHOOSE", of(2, 5, div), div}, {"CHOOSE", of(3, div, noRef), noVal}, {"CHOOSE", of(1, ar{1}), noVal}, {"CHOOSE", of(2, ar{div}, 7), 7}, {"CHOOSE", of(1, nil), nil}, {"CHOOSE", of(1, other), nan}, {"CHOOSE", of(2, noRef, minus, div), minus}, {"CHOOSE", of(2, 1, nil), nil},
	})
	var l []calls.Arg
	for i := range 256 {
		l = append(l, arg(1000+i))
	}
	for _, k := range []int{1, 2, 128, 254, 255} {
		l[0] = arg(k)
		check(t, "P15.2", "CHOOSE", l, val(1000+k))
	}
	for _, k := range []int{0, -1, 256, 257, 1 << 20} {
		l[0] = arg(k)
		check(t, "P15.2", "CHOOSE", l, val(noVal))
	}
}

func TestAsked(t *testing.T) {
	checkRows(t, "P15.2", []row{
		{"NOT", of(0), true}, {"NOT", of(minus), true}, {"NOT", of(-3), false}, {"NOT", of(nil), true}, {"NOT", of("false"), true}, {"NOT", of("TRUE"), false}, {"NOT", of("x"), noVal}, {"NOT", of("0"), noVal}, {"NOT", of(nan), noNum}, {"NOT", of(inf), false}, {"NOT", of(noRef), noRef}, {"NOT", of(ar{true}), noVal},
		{"NA", of(), absent},
		{"EXACT", of(0, minus), false}, {"EXACT", of(minus, minus), true}, {"EXACT", of(nan, other), true}, {"EXACT", of(nil, nil), true}, {"EXACT", of(nil, ""), false}, {"EXACT", of(nil, 0), false}, {"EXACT", of(nil, false), false}, {"EXACT", of("a", "A"), false}, {"EXACT", of("a", "a"), true}, {"EXACT", of("", ""), true}, {"EXACT", of(1, "1"), false}, {"EXACT", of(true, 1), false}, {"EXACT", of(true, true), true}, {"EXACT", of(true, false), false}, {"EXACT", of(1, 1), true}, {"EXACT", of(1, 2), false},
		{"EXACT", of(div, div), div}, {"EXACT", of(1, noRef), noRef}, {"EXACT", of(noRef, div), noRef}, {"EXACT", of(ar{1}, ar{1}), noVal}, {"EXACT", of(noRef, ar{1}), noRef}, {"EXACT", of(ar{}, div), noVal}, {"EXACT", of(1, ar{1}), noVal},
	})
	for i, name := range []string{"ISBLANK", "ISNUMBER", "ISTEXT", "", "ISERROR"} {
		if name == "" {
			continue
		}
		for _, x := range []any{nil, 0, minus, 1.5, nan, other, inf, "", "x", "1", "#DIV!", true, false, div, noNum, noVal, noRef, absent} {
			check(t, "P15.2", name, args(x), val(val(x).Kind == i))
		}
		for _, x := range []ar{{}, {1}, {"x"}, {div}, {true}, {1, 2}} {
			check(t, "P15.2", name, args(x), val(noVal))
		}
	}
}

// P15.2: texts.

func TestCutTexts(t *testing.T) {
	// Signs of one byte, of two, of three, of four.
	s := "a\u00e9\u20ac\U0001F600z"
	parts := []string{"a", "\u00e9", "\u20ac", "\U0001F600", "z"}
	for n := range 8 {
		k := min(n, 5)
		check(t, "P15.2", "LEFT", args(s, n), val(strings.Join(parts[:k], "")))
		check(t, "P15.2", "LEFT", args(s, float64(n)+0.75), val(strings.Join(parts[:k], "")))
		check(t, "P15.2", "RIGHT", args(s, n), val(strings.Join(parts[5-k:], "")))
		for i := 1; i < 8; i++ {
			from := min(i-1, 5)
			check(t, "P15.2", "MID", args(s, i, n), val(strings.Join(parts[from:min(5, from+n)], "")))
		}
		check(t, "P15.2", "MID", args(s, 0, n), val(noVal))
	}
	checkRows(t, "P15.2", []row{
		{"LEN", of("\u00e4b"), 2}, {"LEN", of(s), 5}, {"LEN", of(""), 0}, {"LEN", of(nil), 0}, {"LEN", of(0.1), 3}, {"LEN", of(minus), 2}, {"LEN", of(true), 4}, {"LEN", of(false), 5}, {"LEN", of(nan), 3}, {"LEN", of("e\u0301"), 2}, {"LEN", of("\uFFFD\x00"), 2}, {"LEN", of(strings.Repeat("\U0001F600", 256)), 256}, {"LEN", of(strings.Repeat("x", 1024)), 1024}, {"LEN", of(noRef), noRef}, {"LEN", of(ar{"x"}), noVal},
		{"LEFT", of("\u00e4b", 1), "\u00e4"}, {"LEFT", of("a", -1), noVal}, {"LEFT", of("a", -0.99), ""}, {"LEFT", of("abc", 1e15), "abc"}, {"LEFT", of("abc", 0x1p62), "abc"}, {"LEFT", of("abc", 0x1p32), "abc"}, {"LEFT", of("abc", 0x1p63), noNum}, {"LEFT", of("abc", -0x1p63), noVal}, {"LEFT", of("abc", -0x1p64), noNum}, {"LEFT", of("abc", nan), noNum}, {"LEFT", of("abc", inf), noNum}, {"LEFT", of("abc", -inf), noNum}, {"LEFT", of("abc", "2"), "ab"}, {"LEFT", of("abc", true), "a"}, {"LEFT", of("abc", nil), ""}, {"LEFT", of(nil, 3), ""}, {"LEFT", of(nil, -1), noVal}, {"LEFT", of(1234, 2), "12"}, {"LEFT", of(true, 2), "TR"},
		{"LEFT", of(div, noRef), div}, {"LEFT", of("a", noRef), noRef}, {"LEFT", of("a", "x"), noVal}, {"LEFT", of(ar{"a"}, noRef), noVal}, {"LEFT", of("a", ar{1}), noVal}, {"LEFT", of(div, -1), div},
		{"RIGHT", of("abc", 0), ""}, {"RIGHT", of("\u00e4bc", 2), "bc"}, {"RIGHT", of("abc", -1), noVal}, {"RIGHT", of("abc", -0.5), ""}, {"RIGHT", of("abc", 0x1p62), "abc"}, {"RIGHT", of("abc", math.Nextafter(0x1p63, 0)), "abc"}, {"RIGHT", of("abc", 0x1p63), noNum}, {"RIGHT", of("abc", -0x1p63), noVal}, {"RIGHT", of("abc", nan), noNum}, {"RIGHT", of("", 5), ""}, {"RIGHT", of(1234, "3"), "234"}, {"RIGHT", of(noRef, -1), noRef}, {"RIGHT", of("a", ar{}), noVal},
		{"MID", of("abc", 2, 9), "bc"}, {"MID", of("abc", 9, 1), ""}, {"MID", of("abc", 4, 1), ""}, {"MID", of("abc", 0, 1), noVal}, {"MID", of("abc", 0.9, 1), noVal}, {"MID", of("abc", -1, 1), noVal}, {"MID", of("abc", 1, -1), noVal}, {"MID", of("abc", 1, -0.9), ""}, {"MID", of("abc", 1.9, 1.9), "a"}, {"MID", of("abc", 2, 0x1p62), "bc"}, {"MID", of("abc", 0x1p62, 0x1p62), ""}, {"MID", of("abc", math.Nextafter(0x1p63, 0), 1), ""}, {"MID", of("abc", 2, math.Nextafter(0x1p63, 0)), "bc"}, {"MID", of("abc", 0x1p32+1, 1), ""}, {"MID", of("abc", -0x1p63, 1), noVal}, {"MID", of("abc", 1, -0x1p63), noVal}, {"MID", of("abc", nil, 1), noVal}, {"MID", of("abc", 1, nil), ""}, {"MID", of(nil, 1, 1), ""}, {"MID", of(12345, "2", true), "2"},
		{"MID", of(div, noRef, noNum), div}, {"MID", of("abc", noRef, div), noRef}, {"MID", of("abc", 1, div), div}, {"MID", of("abc", 0, div), div}, {"MID", of("abc", "x", div), noVal}, {"MID", of("abc", 1e300, div), noNum}, {"MID", of("abc", div, 1e300), div}, {"MID", of("abc", nan, 1), noNum}, {"MID", of("abc", 0, nan), noNum}, {"MID", of(ar{}, div, div), noVal}, {"MID", of("abc", ar{1}, div), noVal}, {"MID", of("abc", 1, ar{1}), noVal},
	})
}

func TestRepeatedTexts(t *testing.T) {
	long := strings.Repeat("x", 1024)
	e := "\u00e9"
	checkRows(t, "P15.2", []row{
		{"REPT", of("ab", 600), noVal}, {"REPT", of("ab", 512), strings.Repeat("ab", 512)}, {"REPT", of("ab", 512.9), strings.Repeat("ab", 512)}, {"REPT", of("ab", 513), noVal}, {"REPT", of("ab", 0), ""}, {"REPT", of("ab", 3), "ababab"}, {"REPT", of("abc", 341), strings.Repeat("abc", 341)}, {"REPT", of("abc", 342), noVal}, {"REPT", of(e, 512), strings.Repeat(e, 512)}, {"REPT", of(e, 513), noVal}, {"REPT", of("x", 1024), long}, {"REPT", of("a", 1025), noVal}, {"REPT", of(long, 1), val(long)}, {"REPT", of(long, 2), noVal}, {"REPT", of(long, 0), ""},
		{"REPT", of("", -1), noVal}, {"REPT", of("", 0), ""}, {"REPT", of("", 1e15), ""}, {"REPT", of("", math.Nextafter(0x1p63, 0)), ""}, {"REPT", of(nil, 0x1p62), ""}, {"REPT", of("", 1e300), noNum}, {"REPT", of("a", 1e300), noNum}, {"REPT", of("a", 0x1p62), noVal}, {"REPT", of("ab", 0x1p62), noVal}, {"REPT", of("abcd", 0x1p62), noVal}, {"REPT", of("ab", math.Nextafter(0x1p63, 0)), noVal}, {"REPT", of("a", 0x1p32), noVal}, {"REPT", of("a", 0x1p32+1), noVal},
		{"REPT", of("a", -1), noVal}, {"REPT", of("a", -0.9), ""}, {"REPT", of("a", -0x1p63), noVal}, {"REPT", of("a", nan), noNum}, {"REPT", of("a", -inf), noNum}, {"REPT", of(1.5, 2), "1.51.5"}, {"REPT", of(true, "1"), "TRUE"}, {"REPT", of("a", nil), ""}, {"REPT", of("a", true), "a"}, {"REPT", of(div, noRef), div}, {"REPT", of("a", noRef), noRef}, {"REPT", of("a", "x"), noVal}, {"REPT", of(div, -1), div}, {"REPT", of(ar{"a"}, div), noVal}, {"REPT", of("a", ar{1}), noVal},
	})
}

func TestShownTexts(t *testing.T) {
	checkRows(t, "P15.2", []row{
		{"TEXT", of(0.125, "f2"), "0.13"}, {"TEXT", of(nan, "f2"), "NaN"}, {"TEXT", of(other, "f2:6"), "   NaN"}, {"TEXT", of(minus, "f0"), "-0"}, {"TEXT", of(2.0/3, "q2"), "2/3"}, {"TEXT", of(1234.5, "f2,:10"), "  1,234.50"}, {"TEXT", of(1e300, "f0"), strings.Repeat("#", 64)}, {"TEXT", of(0.256, "p1"), "25.6%"}, {"TEXT", of(123456, "s2"), "1.23e+05"}, {"TEXT", of(true, "g0"), "1"}, {"TEXT", of(nil, "f1"), "0.0"}, {"TEXT", of("1.5", "f2"), "1.50"}, {"TEXT", of(-inf, "q1"), "-Inf"},
		{"TEXT", of(1, "x"), noVal}, {"TEXT", of(1, "F2"), noVal}, {"TEXT", of(1, ""), noVal}, {"TEXT", of(1, "f"), noVal}, {"TEXT", of(1, "f31"), noVal}, {"TEXT", of(1, "f02"), noVal}, {"TEXT", of(1, "f2:0"), noVal}, {"TEXT", of(1, "f2:65"), noVal}, {"TEXT", of(1, "q4"), noVal}, {"TEXT", of(1, " f2"), noVal}, {"TEXT", of(1, nil), noVal}, {"TEXT", of(1, 5), noVal}, {"TEXT", of(1, true), noVal}, {"TEXT", of("x", "f2"), noVal},
		{"TEXT", of(1, div), div}, {"TEXT", of(noRef, div), noRef}, {"TEXT", of("x", div), noVal}, {"TEXT", of(div, "x"), div}, {"TEXT", of(1, ar{"f2"}), noVal}, {"TEXT", of(ar{1}, div), noVal}, {"TEXT", of(noRef, ar{"f2"}), noRef},
	})
}

// An area where none may be is FaultValue, behind faults ahead of it, whatever it shows.
func TestAreasWhereNoneMayBe(t *testing.T) {
	for _, name := range names() {
		if name == "IF" || name == "IFERROR" || name == "CHOOSE" {
			continue
		}
		least := takes()[name][0]
		for i := range least {
			if mayBeArea(name, i) {
				continue
			}
			for _, area := range []ar{{}, {1}, {noRef}, {"x", noRef}, {true}} {
				l := ones(least)
				l[i] = arg(area)
				check(t, "P15.2", name, l, val(noVal))
				for j := range i {
					ahead := ones(least)
					ahead[i], ahead[j] = arg(area), arg(noRef)
					check(t, "P15.2", name, ahead, val(noRef))
				}
			}
		}
	}
	// One that has one cell is an area, too.
	check(t, "P15.2", "ABS", []calls.Arg{{Area: true, L: []api.Value{val(5)}, N: 1}}, val(noVal))
}
