package calls_test

import (
	"math"
	"strings"
	"testing"

	"quadrille/api"
	"quadrille/calls"
)

// P15.2: functions over numbers, truths and texts of areas.

func TestSums(t *testing.T) {
	checkRows(t, "P15.2", []row{
		{"SUM", of(1, true, "2", nil), 4},
		{"SUM", of(ar{1, "x", true, 2}), 3},
		{"SUM", of("x"), noVal}, {"SUM", of("TRUE"), noVal}, {"SUM", of("0x10", "-1e1"), 6}, {"SUM", of(false), 0},
		{"SUM", of(ar{1, noRef, div}), noRef},
		{"SUM", of(1e16, 1, -1e16), 1}, {"SUM", of(ar{1e16}, ar{1, -1e16}), 1},
		{"SUM", of(nil), 0}, {"SUM", of(ar{}), 0}, {"SUM", of(ar{"1", true}), 0}, {"SUM", of(nil, ar{}, nil), 0},
		{"SUM", of(minus), minus}, {"SUM", of(minus, nil, ar{minus}), minus}, {"SUM", of(minus, 0), 0}, {"SUM", of("-0"), minus}, {"SUM", of(1, -1), 0},
		{"SUM", of(most, most), noNum}, {"SUM", of(most, ar{most, -most}), most}, {"SUM", of(-most, -most), noNum}, {"SUM", of(inf, most, most), inf}, {"SUM", of(inf, -inf), nan}, {"SUM", of(other), nan}, {"SUM", of(ar{other, inf}), nan},
		{"SUM", of(1, 0x1p-53), 1}, {"SUM", of(1, ar{0x1p-53, tiny}), 1 + 0x1p-52}, {"SUM", of(tiny, small), 0x1p-1022},
		{"SUMSQ", of(3, ar{4}), 25}, {"SUMSQ", of(0x1p600), noNum}, {"SUMSQ", of(nil), 0}, {"SUMSQ", of(ar{"x"}), 0}, {"SUMSQ", of(minus), 0}, {"SUMSQ", of(-inf), inf}, {"SUMSQ", of(nan), nan}, {"SUMSQ", of(tiny), 0}, {"SUMSQ", of("3", true), 10}, {"SUMSQ", of(0x1p27+1, 0), 0x1p54 + 0x1p28},
		{"SUMPRODUCT", of(ar{1, 2}, ar{3, "x", 4}), 11}, {"SUMPRODUCT", of(2, 3), 6}, {"SUMPRODUCT", of("2", true), 2}, {"SUMPRODUCT", of(ar{5}, 2), 10}, {"SUMPRODUCT", of(2, ar{5}), 10},
		{"SUMPRODUCT", of(ar{1}, ar{}), noVal}, {"SUMPRODUCT", of(ar{1, 2}, ar{1}), noVal}, {"SUMPRODUCT", of(nil, 1), noVal}, {"SUMPRODUCT", of(1, nil), noVal}, {"SUMPRODUCT", of(ar{}, ar{}), 0}, {"SUMPRODUCT", of(nil, ar{"x"}), 0},
		{"SUMPRODUCT", of(ar{most}, ar{most}), noNum}, {"SUMPRODUCT", of(ar{most, 1}, ar{most}), noVal}, {"SUMPRODUCT", of(ar{0}, ar{inf}), nan}, {"SUMPRODUCT", of(minus, 1), minus}, {"SUMPRODUCT", of(tiny, 0.5), 0}, {"SUMPRODUCT", of(tiny, 0.75), tiny}, {"SUMPRODUCT", of(ar{1e200, 2, 1e200}, ar{1e200, 3, -1e200}), 6},
		{"SUMPRODUCT", of(ar{1, 2}, ar{div}), div}, {"SUMPRODUCT", of(ar{noRef}, div), noRef}, {"SUMPRODUCT", of("x", ar{div}), noVal}, {"SUMPRODUCT", of(ar{div}, "x"), div},
	})
}

func TestMeansAndVariances(t *testing.T) {
	checkRows(t, "P15.2", []row{
		{"AVERAGE", of(1, 2), 1.5}, {"AVERAGE", of(nil, ar{"1"}), div}, {"AVERAGE", of(nil), div}, {"AVERAGE", of(ar{}), div}, {"AVERAGE", of(most, most), most}, {"AVERAGE", of(minus, minus), minus}, {"AVERAGE", of(1, ar{1, "x", 2}), 4.0 / 3}, {"AVERAGE", of(true, "3", nil), 2}, {"AVERAGE", of(inf, 1), inf}, {"AVERAGE", of(inf, -inf), nan}, {"AVERAGE", of(nan), nan}, {"AVERAGE", of(7), 7}, {"AVERAGE", of("x"), noVal}, {"AVERAGE", of(nil, noRef), noRef}, {"AVERAGE", of(ar{noRef}), noRef},
		{"VAR", of(1, 2, 3, 4), 5.0 / 3}, {"VARP", of(ar{1, 2}, 3, 4), 1.25}, {"VAR", of(1, 3), 2}, {"VARP", of(1, 3), 1},
		{"VAR", of(nil), div}, {"VARP", of(nil), div}, {"VAR", of(ar{"x"}), div}, {"VARP", of(ar{"x"}), div}, {"VAR", of(5), div}, {"VARP", of(5), 0}, {"VAR", of(5, nil, ar{"7"}), div}, {"VAR", of(inf), div}, {"VARP", of(inf), nan}, {"VAR", of(nan), div}, {"VARP", of(nan), nan},
		{"VAR", of(1, inf), nan}, {"VARP", of(1, other), nan}, {"VAR", of(most, -most), noNum}, {"VARP", of(most, -most), noNum}, {"VARP", of(1e16, 1e16+2), 1}, {"VAR", of(1e16, 1e16+2), 2}, {"VAR", of(minus, minus), 0}, {"VAR", of(noRef), noRef}, {"VARP", of(5, "x"), noVal},
		{"STDEV", of(1e16, 1e16+2), math.Sqrt2}, {"STDEVP", of(1, 3), 1}, {"STDEV", of(0, 1), math.Sqrt(0.5)}, {"STDEVP", of(0, 2), 1}, {"STDEV", of(0, 2), math.Sqrt2},
		{"STDEV", of(nil), div}, {"STDEVP", of(nil), div}, {"STDEV", of(5), div}, {"STDEVP", of(5), 0}, {"STDEV", of(1, nan), nan}, {"STDEVP", of(-inf), nan}, {"STDEV", of(most, -most), noNum}, {"STDEVP", of(most, -most), noNum}, {"STDEV", of("x"), noVal}, {"STDEVP", of(ar{1, noRef}), noRef},
	})
}

func TestLeastGreatestMiddleOften(t *testing.T) {
	checkRows(t, "P15.2", []row{
		{"MIN", of(nil), 0}, {"MAX", of(nil), 0}, {"MIN", of(ar{"-9", false}), 0}, {"MAX", of(ar{"9", true}), 0}, {"MIN", of(ar{}), 0},
		{"MIN", of(2, ar{minus, 0}), minus}, {"MIN", of(0, minus), minus}, {"MAX", of(0, minus), 0}, {"MAX", of(minus, 0), 0}, {"MAX", of(minus), minus}, {"MAX", of(2, true), 2}, {"MIN", of(2, true), 1}, {"MAX", of("7", 2), 7}, {"MIN", of(5, ar{"x", 9}), 5},
		{"MIN", of(2, nan), 2}, {"MAX", of(2, other), nan}, {"MIN", of(other), nan}, {"MAX", of(-inf), -inf}, {"MIN", of(inf, -inf, most), -inf}, {"MAX", of(inf, -inf, most), inf}, {"MIN", of(tiny, small), tiny}, {"MAX", of(tiny, small), small},
		{"MIN", of("x"), noVal}, {"MAX", of(1, ar{1, "x", noRef, div}), noRef}, {"MIN", of(ar{div}, "x"), div},
		{"MEDIAN", of(1, 2), 1.5}, {"MEDIAN", of(3, ar{1, 2}), 2}, {"MEDIAN", of(nil), noNum}, {"MEDIAN", of(ar{}), noNum}, {"MEDIAN", of(ar{"1"}), noNum}, {"MEDIAN", of(5), 5}, {"MEDIAN", of(minus, 0), 0}, {"MEDIAN", of(inf, -inf), nan}, {"MEDIAN", of(most, most), most}, {"MEDIAN", of(nan, 1, 2), 2}, {"MEDIAN", of(nan), nan}, {"MEDIAN", of("x"), noVal}, {"MEDIAN", of(ar{}, div), div},
		{"MODE", of(1, 2), absent}, {"MODE", of(1), absent}, {"MODE", of(nil), absent}, {"MODE", of(ar{"x", true}), absent}, {"MODE", of(minus, 0, 1), minus}, {"MODE", of(0, minus, 1), minus}, {"MODE", of(1, 1), 1}, {"MODE", of(2, 2, 1, 1), 1}, {"MODE", of(2, 2, 1, 1, 2), 2}, {"MODE", of(nan, other, 1), nan}, {"MODE", of(ar{1}, 1), 1}, {"MODE", of(true, "1", 2), 1}, {"MODE", of(ar{true, 1}, 2), absent}, {"MODE", of(inf, inf, -inf), inf}, {"MODE", of("x", 1, 1), noVal}, {"MODE", of(1, 1, ar{noRef}), noRef}, {"MODE", of(nan), absent},
	})
}

func TestCounts(t *testing.T) {
	checkRows(t, "P15.2", []row{
		{"COUNT", of(1, "2", div, ar{3, "x"}), 2}, {"COUNT", of(nil), 0}, {"COUNT", of(nan), 1}, {"COUNT", of(true), 0}, {"COUNT", of("x"), 0}, {"COUNT", of(div), 0}, {"COUNT", of(ar{}), 0}, {"COUNT", of(ar{div, 1, other, true, "1"}), 2}, {"COUNT", of(ar{inf}, minus, ar{-inf, 0}), 4},
		{"COUNTA", of(1, "2", div, ar{3, "x"}, nil), 5}, {"COUNTA", of(nil), 0}, {"COUNTA", of(""), 1}, {"COUNTA", of(div), 1}, {"COUNTA", of(false), 1}, {"COUNTA", of(0), 1}, {"COUNTA", of(ar{}), 0}, {"COUNTA", of(ar{div, "", false, 0, nan}), 5}, {"COUNTA", of(nil, ar{noRef}, nil, ar{}), 1},
	})
}

func TestTruths(t *testing.T) {
	checkRows(t, "P15.2", []row{
		{"AND", of(true, 2, ar{"x", 0}), false}, {"AND", of("true", nil), true}, {"AND", of(true, ar{1, true, -1}), true}, {"AND", of(true, false), false}, {"AND", of(inf), true}, {"AND", of(minus), false}, {"AND", of(true, "FALSE"), false},
		{"AND", of(nil), noVal}, {"AND", of(ar{}), noVal}, {"AND", of(ar{"x"}), noVal}, {"AND", of(ar{"TRUE"}, nil), noVal}, {"AND", of("x"), noVal}, {"AND", of("1"), noVal}, {"AND", of(""), noVal},
		{"AND", of(nan), noNum}, {"AND", of(false, other), noNum}, {"AND", of(ar{"x", nan, div}), noNum}, {"AND", of(ar{"x", div, nan}), div}, {"AND", of(ar{nan}, div), noNum}, {"AND", of(div, ar{nan}), div}, {"AND", of(ar{false, nan}), noNum}, {"AND", of("x", ar{div}), noVal}, {"AND", of(ar{div}, "x"), div}, {"AND", of(ar{"x", div}), div}, {"AND", of(false, ar{"x"}, noRef), noRef},
		{"OR", of(false, 0.5), true}, {"OR", of(0, minus), false}, {"OR", of(false, nil), false}, {"OR", of("FALSE", "tRuE"), true}, {"OR", of(tiny), true}, {"OR", of(ar{false, 0, "TRUE"}), false}, {"OR", of(ar{"TRUE", -1}), true},
		{"OR", of(nil), noVal}, {"OR", of(ar{}), noVal}, {"OR", of(ar{"x"}), noVal}, {"OR", of(true, "x"), noVal}, {"OR", of(true, ar{other}), noNum}, {"OR", of(true, ar{true, noRef, nan}), noRef}, {"OR", of(nan, div), noNum}, {"OR", of(true, nan), noNum},
	})
}

func TestJoined(t *testing.T) {
	long := strings.Repeat("x", 1024)
	e := "\u00e9"
	checkRows(t, "P15.2", []row{
		{"JOIN", of(0.1, "a", nil, ar{true, -0.5}), "0.1aTRUE-0.5"}, {"JOIN", of(nil), ""}, {"JOIN", of(ar{}), ""}, {"JOIN", of(minus, nan, -inf, false), "-0NaN-InfFALSE"}, {"JOIN", of(1e21, ar{"", e}), "1e21" + e}, {"JOIN", of(other), "NaN"},
		{"JOIN", of(long), long}, {"JOIN", of(long, nil, "", ar{""}), long}, {"JOIN", of(long, "y"), noVal}, {"JOIN", of("y", long), noVal}, {"JOIN", of(ar{long, 1}), noVal},
		{"JOIN", of(long[:1022], e), long[:1022] + e}, {"JOIN", of(long[:1023], e), noVal}, {"JOIN", of(long[:1023], "y"), long[:1023] + "y"}, {"JOIN", of(long[:1023], "yy"), noVal}, {"JOIN", of(strings.Repeat(e, 256), strings.Repeat(e, 256)), strings.Repeat(e, 512)},
		{"JOIN", of(long, "y", div), div}, {"JOIN", of(ar{long, long, noRef}), noRef}, {"JOIN", of("a", ar{"b", noRef, div}, noNum), noRef},
	})
}

func TestPlaces(t *testing.T) {
	l := ar{1, "x", 5, true, 3}
	checkRows(t, "P15.2", []row{
		{"LARGE", of(l, 1.9), 5}, {"LARGE", of(l, 1), 5}, {"LARGE", of(l, 2), 3}, {"LARGE", of(l, 3.99), 1}, {"LARGE", of(l, 4), noNum}, {"LARGE", of(l, 0), noNum}, {"LARGE", of(l, 0.99), noNum}, {"LARGE", of(l, -1), noNum},
		{"SMALL", of(l, 0), noNum}, {"SMALL", of(l, 1), 1}, {"SMALL", of(l, 2.5), 3}, {"SMALL", of(l, 3), 5}, {"SMALL", of(l, 4), noNum}, {"SMALL", of(l, -0.5), noNum},
		{"LARGE", of(ar{1}, inf), noNum}, {"LARGE", of(ar{1}, nan), noNum}, {"LARGE", of(ar{1}, 0x1p63), noNum}, {"LARGE", of(ar{1}, -0x1p63), noNum}, {"LARGE", of(ar{1}, 0x1p62), noNum}, {"LARGE", of(ar{1}, 0x1p32+1), noNum}, {"LARGE", of(ar{1}, -0x1p32+1), noNum}, {"LARGE", of(ar{1}, most), noNum},
		{"SMALL", of(ar{1}, -inf), noNum}, {"SMALL", of(ar{1}, other), noNum}, {"SMALL", of(ar{1}, 0x1p64+4096), noNum}, {"SMALL", of(ar{1}, -0x1p63), noNum}, {"SMALL", of(ar{1}, 0x1p32+1), noNum}, {"SMALL", of(ar{1}, 1e300), noNum},
		{"SMALL", of(l, "2"), 3}, {"SMALL", of(l, true), 1}, {"SMALL", of(l, nil), noNum}, {"SMALL", of(5, 1), 5}, {"SMALL", of(nil, 1), noNum}, {"SMALL", of(ar{}, 1), noNum}, {"LARGE", of("7", 1), 7}, {"LARGE", of(true, 1), 1},
		{"SMALL", of(ar{0, minus}, 1), minus}, {"LARGE", of(ar{minus, 0}, 1), 0}, {"LARGE", of(ar{other, 1}, 1), nan}, {"LARGE", of(ar{nan, 1}, 2), 1}, {"SMALL", of(ar{other, 1}, 2), nan}, {"SMALL", of(ar{inf, -inf}, 1), -inf}, {"LARGE", of(ar{4, 4, 2}, 2), 4},
		{"SMALL", of(ar{div}, noRef), div}, {"SMALL", of(ar{1}, noRef), noRef}, {"SMALL", of(1, ar{1}), noVal}, {"SMALL", of(ar{div}, ar{1}), div}, {"SMALL", of("x", 9), noVal}, {"SMALL", of(ar{1}, "x"), noVal}, {"LARGE", of("x", nan), noVal}, {"LARGE", of(ar{}, "x"), noVal},
		{"PERCENTILE", of(ar{0, 10}, 0.25), 2.5}, {"PERCENTILE", of(ar{10, 0, "x"}, 0), 0}, {"PERCENTILE", of(ar{0, 10}, 1), 10}, {"PERCENTILE", of(ar{0, 10}, minus), 0}, {"PERCENTILE", of(ar{0, 10}, 0.1), 1}, {"PERCENTILE", of(ar{20, 0, 10}, "0.5"), 10}, {"PERCENTILE", of(ar{0, 10}, true), 10}, {"PERCENTILE", of(ar{0, 10}, nil), 0}, {"PERCENTILE", of(7, 0.3), 7},
		{"PERCENTILE", of(ar{0, 10}, 1.5), noNum}, {"PERCENTILE", of(ar{0, 10}, math.Nextafter(1, 2)), noNum}, {"PERCENTILE", of(ar{0, 10}, -tiny), noNum}, {"PERCENTILE", of(ar{0, 10}, nan), noNum}, {"PERCENTILE", of(ar{0, 10}, inf), noNum}, {"PERCENTILE", of(ar{}, 0), noNum}, {"PERCENTILE", of(nil, 0.5), noNum}, {"PERCENTILE", of(ar{}, 2), noNum},
		{"PERCENTILE", of(ar{1, inf}, 0.5), inf}, {"PERCENTILE", of(ar{1, inf}, 0), 1}, {"PERCENTILE", of(ar{-inf, inf}, 0.5), nan}, {"PERCENTILE", of(ar{nan, 1}, 0), 1}, {"PERCENTILE", of(ar{nan, 1}, 1), nan},
		{"PERCENTILE", of(ar{noRef}, div), noRef}, {"PERCENTILE", of(ar{}, div), div}, {"PERCENTILE", of(ar{1}, ar{1}), noVal}, {"PERCENTILE", of(ar{1}, "x"), noVal}, {"PERCENTILE", of("x", 2), noVal},
	})
}

func TestRanks(t *testing.T) {
	l := ar{1, "3", 5, true, 3}
	noughts := ar{3, minus, 0, -1}
	checkRows(t, "P15.2", []row{
		{"RANK", of(3, l), 2}, {"RANK", of(3, l, 1), 2}, {"RANK", of(5, l), 1}, {"RANK", of(5, l, 1), 3}, {"RANK", of(1, l), 3}, {"RANK", of(2, l), absent}, {"RANK", of(2, l, 1), absent},
		{"RANK", of(5, l, 0), 1}, {"RANK", of(5, l, minus), 1}, {"RANK", of(5, l, nan), 3}, {"RANK", of(5, l, other), 3}, {"RANK", of(5, l, tiny), 3}, {"RANK", of(5, l, -1), 3}, {"RANK", of(5, l, inf), 3}, {"RANK", of(5, l, nil), 1}, {"RANK", of(5, l, false), 1}, {"RANK", of(5, l, true), 3}, {"RANK", of(5, l, "0"), 1}, {"RANK", of(5, l, "-0"), 1}, {"RANK", of(5, l, "1"), 3},
		{"RANK", of(0, noughts, 1), 2}, {"RANK", of(minus, noughts, 1), 2}, {"RANK", of(0, noughts), 2}, {"RANK", of(3, ar{nan, 3, 4, nan}), 2}, {"RANK", of(3, ar{nan, 3, 4, nan}, 1), 1}, {"RANK", of(inf, ar{inf, -inf}), 1}, {"RANK", of(-inf, ar{inf, -inf}), 2},
		{"RANK", of(nan, ar{nan}), absent}, {"RANK", of(1, ar{}), absent}, {"RANK", of(1, nil), absent}, {"RANK", of(0, nil), absent}, {"RANK", of(5, 5), 1}, {"RANK", of("5", "5"), 1}, {"RANK", of(true, l), 3}, {"RANK", of(nil, noughts), 2},
		{"RANK", of(div, ar{noRef}, noNum), div}, {"RANK", of(9, ar{noRef}, noNum), noRef}, {"RANK", of(9, l, noNum), noNum}, {"RANK", of("x", ar{noRef}), noVal}, {"RANK", of(9, l, "x"), noVal}, {"RANK", of(9, "x", div), noVal},
		{"RANK", of(ar{1}, ar{1}), noVal}, {"RANK", of(ar{1}, ar{noRef}), noVal}, {"RANK", of(1, ar{1}, ar{1}), noVal}, {"RANK", of(1, ar{noRef}, ar{1}), noRef},
	})
}

func TestCountIf(t *testing.T) {
	l := ar{1, 2, 3, nan, minus, "2", true}
	checkRows(t, "P15.2", []row{
		{"COUNTIF", of(l, "=", 2), 1}, {"COUNTIF", of(l, "<>", 2), 4}, {"COUNTIF", of(l, "<", 2), 2}, {"COUNTIF", of(l, "<=", 2), 3}, {"COUNTIF", of(l, ">", 2), 1}, {"COUNTIF", of(l, ">=", 2), 2},
		{"COUNTIF", of(l, "=", nan), 0}, {"COUNTIF", of(l, "<>", other), 5}, {"COUNTIF", of(l, "<", nan), 0}, {"COUNTIF", of(l, "<=", nan), 0}, {"COUNTIF", of(l, ">", nan), 0}, {"COUNTIF", of(l, ">=", nan), 0},
		{"COUNTIF", of(l, "=", 0), 1}, {"COUNTIF", of(l, "<", 0), 0}, {"COUNTIF", of(l, "<=", nil), 1}, {"COUNTIF", of(l, ">=", "1"), 3}, {"COUNTIF", of(l, ">", true), 2}, {"COUNTIF", of(l, "<", inf), 4}, {"COUNTIF", of(l, ">", -inf), 4},
		{"COUNTIF", of(5, ">", 4), 1}, {"COUNTIF", of("5", "=", "5"), 1}, {"COUNTIF", of(nil, "=", 0), 0}, {"COUNTIF", of(ar{}, "=", 0), 0}, {"COUNTIF", of(ar{}, "<>", 0), 0}, {"COUNTIF", of(ar{}, "x", 0), noVal},
		{"COUNTIF", of(l, "==", div), div}, {"COUNTIF", of(ar{div}, "==", 1), div}, {"COUNTIF", of(l, noRef, div), noRef}, {"COUNTIF", of(l, "=", "x"), noVal}, {"COUNTIF", of(l, ar{"="}, div), noVal}, {"COUNTIF", of(l, "=", ar{1}), noVal}, {"COUNTIF", of(ar{1, noRef}, "=", div), noRef}, {"COUNTIF", of("x", "==", div), noVal},
	})
	for _, sign := range []any{"==", "=<", "=>", "><", "<> ", " <", "< ", "", "<<", ">>", ">==", "<=>", "!=", "\u2264", "=\x00", "eq", "OpEq", "10", 10, 0, true, nil, nan} {
		check(t, "P15.2", "COUNTIF", args(l, sign, 2), val(noVal))
	}
}

// An area may show more numbers than a list may have.
func TestAreasWithMoreNumbersThanAList(t *testing.T) {
	const full = 65536
	l := make([]api.Value, full+1)
	for i := range l {
		l[i] = val(i % 2)
	}
	a := calls.Arg{Area: true, L: l[:full], N: full}
	over := calls.Arg{Area: true, L: l, N: 1 << 20}
	for name, want := range map[string][2]any{
		"SUM": {full / 2, noVal}, "SUMSQ": {full / 2, noVal}, "AVERAGE": {0.5, noVal}, "VARP": {0.25, noVal}, "STDEVP": {0.5, noVal},
		"MIN": {0, 0}, "MAX": {1, 1}, "MEDIAN": {0.5, 0}, "MODE": {0, 0}, "COUNT": {full, full + 1}, "COUNTA": {full, full + 1}, "AND": {false, false}, "OR": {true, true}, "JOIN": {noVal, noVal},
	} {
		check(t, "P15.2", name, []calls.Arg{a}, val(want[0]))
		check(t, "P15.2", name, []calls.Arg{over}, val(want[1]))
		check(t, "P15.2", name, []calls.Arg{a, {V: val(0)}}, val(want[1]))
	}
	check(t, "P15.2", "VAR", []calls.Arg{over}, val(noVal))
	check(t, "P15.2", "STDEV", []calls.Arg{over}, val(noVal))
	check(t, "P15.2", "SUM", []calls.Arg{over, {V: val(div)}}, val(div))
	check(t, "P15.2", "SUMPRODUCT", []calls.Arg{a, a}, val(full/2))
	check(t, "P15.2", "SUMPRODUCT", []calls.Arg{over, over}, val(noVal))
	check(t, "P15.2", "SMALL", []calls.Arg{over, {V: val(full + 1)}}, val(1))
	check(t, "P15.2", "LARGE", []calls.Arg{over, {V: val(full + 1)}}, val(0))
	check(t, "P15.2", "LARGE", []calls.Arg{over, {V: val(full + 2)}}, val(noNum))
}
