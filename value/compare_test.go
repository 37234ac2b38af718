package value_test

import (
	"math"
	"math/rand"
	"strings"
	"testing"
	"unicode/utf8"

	"quadrille/api"
	"quadrille/value"
)

// turned are the comparisons' signs turned round.
func turned() map[int]int { return map[int]int{10: 10, 11: 11, 12: 14, 13: 15, 14: 12, 15: 13} }

// placed is a value with its place among those of its kind: equal ones share it. The NaN has none.
type placed struct {
	v     api.Value
	place int
	none  bool
}

// stood are values of the four kinds that can be compared, each with its place; a Blank's is 0, that of all it counts as.
func stood() []placed {
	l := []placed{{v: blank}}
	for i, x := range []float64{-inf, -math.MaxFloat64, -2, -small, -tiny} {
		l = append(l, placed{v: num(x), place: i - 5})
	}
	l = append(l, placed{v: num(minus)}, placed{v: num(0)})
	for i, x := range []float64{tiny, small, 0.1, math.Nextafter(0.1, 1), 1, 1e300, inf} {
		l = append(l, placed{v: num(x), place: i + 1})
	}
	for _, x := range nans() {
		l = append(l, placed{v: num(x), none: true})
	}
	for i, s := range []string{"", "\x00", " ", "0", "10", "7", "A", "Aa", "FALSE", "TRUE", "a", "aa", "b", "\x7f", "\x80", "\u00e9", "\u00e9a", "\uFFFD", "\U0001F600", "\xff"} {
		l = append(l, placed{v: txt(s), place: i})
	}
	return append(l, placed{v: truth(false)}, placed{v: truth(true), place: 1})
}

// stands tells whether a is below b and whether they are equal, by their kinds and places.
func stands(a, b placed) (below, equal bool) {
	ka, kb := a.v.Kind, b.v.Kind
	if ka == 0 {
		ka = kb
	}
	if kb == 0 {
		kb = ka
	}
	switch {
	case ka != kb:
		return ka < kb, false
	case a.none || b.none:
		return false, false
	}
	return a.place < b.place, a.place == b.place
}

// holds is what each comparison asks.
func holds(op int, a, b placed) bool {
	below, equal := stands(a, b)
	above, _ := stands(b, a)
	return map[int]bool{10: equal, 11: !equal, 12: below, 13: below || equal, 14: above, 15: above || equal}[op]
}

func checkCompared(t *testing.T, op int, a, b, want api.Value) {
	t.Helper()
	if got := value.Compare(op, a, b); !alike(got, want) {
		t.Errorf("P14.4: Compare(%d, %s, %s): %s, not %s", op, told(a), told(b), told(got), told(want))
	}
}

func TestCompare(t *testing.T) {
	l := stood()
	for _, a := range l {
		for _, b := range l {
			for op := 10; op <= 15; op++ {
				want := truth(holds(op, a, b))
				for _, v := range littered(a.v) {
					checkCompared(t, op, v, b.v, want)
				}
				for _, v := range littered(b.v) {
					checkCompared(t, op, a.v, v, want)
				}
			}
		}
	}
}

// TestCompareByHand has the document's examples and what its words name.
func TestCompareByHand(t *testing.T) {
	for _, c := range []struct {
		op   int
		a, b api.Value
		want bool
	}{
		{10, num(minus), num(0), true}, {12, num(minus), num(0), false}, {13, num(0), num(minus), true}, {11, num(0), num(minus), false},
		{10, num(nan), num(nan), false}, {11, num(nan), num(nan), true}, {15, num(nan), num(1), false}, {13, num(1), num(nan), false}, {12, num(inf), num(nan), false}, {14, num(nan), num(inf), false},
		{11, num(nan), blank, true}, {12, blank, num(nan), false}, {15, blank, num(nan), false},
		{12, num(7), txt("7"), true}, {12, num(nan), txt(""), true}, {12, num(inf), truth(false), true}, {14, txt(""), num(inf), true}, {12, txt("\xff"), truth(false), true}, {10, txt("TRUE"), truth(true), false}, {10, num(1), truth(true), false},
		{10, blank, blank, true}, {12, blank, blank, false}, {15, blank, blank, true}, {11, blank, blank, false},
		{10, blank, num(0), true}, {10, blank, num(minus), true}, {12, blank, num(tiny), true}, {14, blank, num(-tiny), true}, {12, num(-1), blank, true},
		{10, blank, txt(""), true}, {12, blank, txt("\x00"), true}, {12, txt(""), blank, false}, {10, blank, txt("0"), false},
		{10, blank, truth(false), true}, {12, blank, truth(true), true}, {14, truth(true), blank, true},
		{10, txt("a"), txt("A"), false}, {14, txt("a"), txt("A"), true}, {12, txt("a"), txt("ab"), true}, {12, txt("Z"), txt("a"), true}, {12, txt("10"), txt("9"), true},
		{12, truth(false), truth(true), true}, {15, truth(true), truth(true), true}, {10, truth(false), truth(false), true},
	} {
		checkCompared(t, c.op, c.a, c.b, truth(c.want))
	}
}

// wrongs are faults and ones of no kind, each with the fault that is told of it.
func wrongs() map[int][]api.Value {
	m := map[int][]api.Value{}
	for f := 1; f <= 5; f++ {
		m[f] = littered(fault(f))
	}
	for _, f := range noFaults() {
		m[3] = append(m[3], littered(fault(f))...)
	}
	for _, k := range noKinds() {
		m[3] = append(m[3], littered(api.Value{Kind: k})...)
		m[3] = append(m[3], api.Value{Kind: k, F: 1})
	}
	return m
}

func TestCompareTellsTheFirstFault(t *testing.T) {
	all := wrongs()
	for f, as := range all {
		for _, a := range as {
			for _, b := range stood() {
				for op := 10; op <= 15; op++ {
					checkCompared(t, op, a, b.v, fault(f))
					checkCompared(t, op, b.v, a, fault(f))
				}
			}
			for _, bs := range all {
				checkCompared(t, 10, a, bs[0], fault(f))
				checkCompared(t, 15, a, bs[len(bs)-1], fault(f))
			}
		}
	}
}

func TestCompareByWhatIsNoComparison(t *testing.T) {
	for _, op := range []int{math.MinInt, -1 << 32, -10, -1, 0, 1, 2, 3, 4, 5, 6, 7, 8, 9, 16, 17, 26, 256 + 10, 1 << 32, 1<<32 + 10, math.MaxInt} {
		for _, a := range stood() {
			checkCompared(t, op, a.v, num(1), fault(3))
			checkCompared(t, op, num(1), a.v, fault(3))
			checkCompared(t, op, a.v, a.v, fault(3))
		}
		for _, l := range wrongs() {
			checkCompared(t, op, l[0], num(1), fault(3))
			checkCompared(t, op, num(1), l[0], fault(3))
			checkCompared(t, op, l[0], l[0], fault(3))
		}
	}
}

// P14.6: what follows.

func pick[T any](r *rand.Rand, l ...T) T { return l[r.Intn(len(l))] }

// randomText is a text of few letters, so that equal ones and beginnings come often; some are of no right UTF-8, some too long.
func randomText(r *rand.Rand) string {
	var b strings.Builder
	for range r.Intn(5) {
		b.WriteString(pick(r, "a", "A", "b", "\u00e9", "\U0001F600", "\x00", "0", "1"))
	}
	switch r.Intn(20) {
	case 0:
		b.WriteString(pick(r, "\xff", "\xc3"))
	case 1:
		b.WriteString(strings.Repeat("x", pick(r, 1020, 1024, 1025)))
	}
	return b.String()
}

func randomNumber(r *rand.Rand) float64 {
	if r.Intn(2) == 0 {
		return math.Float64frombits(r.Uint64())
	}
	return pick(r, append(nans(), 0, minus, 1, -1, tiny, -tiny, inf, -inf, 0.5, 2)...)
}

// randomValue is a value of any Kind, the five of them mostly, with anything in its other fields at times.
func randomValue(r *rand.Rand) api.Value {
	v := api.Value{Kind: pick(r, append(noKinds(), 0, 0, 1, 1, 1, 1, 1, 1, 2, 2, 2, 2, 2, 2, 3, 3, 3, 3, 4, 4, 4, 4)...)}
	w := api.Value{Kind: v.Kind, X: randomNumber(r), S: randomText(r), B: r.Intn(2) == 0, F: pick(r, append(noFaults(), 1, 2, 3, 4, 5, 1, 2, 3, 4, 5)...)}
	if r.Intn(4) == 0 {
		return w
	}
	switch v.Kind {
	case 1:
		v.X = w.X
	case 2:
		v.S = w.S
	case 3:
		v.B = w.B
	case 4:
		v.F = w.F
	}
	return v
}

func randomValues(seed int64, n int) []api.Value {
	r := rand.New(rand.NewSource(seed))
	l := make([]api.Value, n)
	for i := range l {
		l[i] = randomValue(r)
	}
	return l
}

// mayBe is the document's word, field by field, as one value of that kind that has this field alone.
func mayBe(v api.Value) bool {
	return alike(v, map[int]api.Value{0: blank, 1: num(v.X), 2: txt(v.S), 3: truth(v.B), 4: fault(v.F)}[v.Kind]) &&
		(v.Kind != 2 || utf8.ValidString(v.S) && len(v.S) <= 1024) &&
		(v.Kind != 4 || 1 <= v.F && v.F <= 5)
}

func TestOrderIsAnOrder(t *testing.T) {
	l := randomValues(142, 160)
	seen := 0
	for i, a := range l {
		if value.Valid(a) != mayBe(a) {
			t.Fatalf("P14.1: Valid(%s)", told(a))
		}
		if value.Order(a, a) != 0 || !value.Same(a, a) {
			t.Fatalf("P14.6: %s is not the same as itself", told(a))
		}
		for m, b := range l {
			k := value.Order(a, b)
			if k != -value.Order(b, a) || k < -1 || k > 1 {
				t.Fatalf("P14.6: Order(%s, %s) and turned round", told(a), told(b))
			}
			if value.Same(a, b) != value.Same(b, a) || mayBe(a) && mayBe(b) && value.Same(a, b) != (k == 0) {
				t.Fatalf("P14.6: Same(%s, %s)", told(a), told(b))
			}
			if k == 0 && i != m && mayBe(a) && mayBe(b) && a.Kind != 0 {
				seen++
			}
			for _, c := range l {
				if k <= 0 && value.Order(b, c) <= 0 && value.Order(a, c) != min(k, value.Order(b, c)) {
					t.Fatalf("P14.6: %s, %s, %s stand in no order", told(a), told(b), told(c))
				}
			}
		}
	}
	if seen < 20 {
		t.Errorf("only %d pairs were the same: too few to tell", seen)
	}
}

// isWrong tells whether a value is a fault, or of no kind.
func isWrong(v api.Value) bool { return v.Kind < 0 || v.Kind > 3 }

func TestComparisonsTurnedRound(t *testing.T) {
	l := randomValues(143, 400)
	for _, a := range l {
		for _, b := range l {
			for op, back := range turned() {
				got, round := value.Compare(op, a, b), value.Compare(back, b, a)
				if !(isWrong(a) && isWrong(b)) && !alike(got, round) {
					t.Fatalf("P14.6: Compare(%d, %s, %s): %s; turned round %s", op, told(a), told(b), told(got), told(round))
				}
				if !value.Valid(got) {
					t.Fatalf("P14.6: Compare(%d, %s, %s): %s may not be", op, told(a), told(b), told(got))
				}
				if wrong := isWrong(a) || isWrong(b); wrong != (got.Kind == api.Fault) || !wrong && got.Kind != api.Truth {
					t.Fatalf("P14.4: Compare(%d, %s, %s): %s", op, told(a), told(b), told(got))
				}
			}
		}
	}
}

func TestJustOneComparisonHolds(t *testing.T) {
	l := randomValues(144, 400)
	for _, a := range l {
		for _, b := range l {
			if isWrong(a) || isWrong(b) {
				continue
			}
			if value.Compare(10, a, b).B == value.Compare(11, a, b).B {
				t.Fatalf("P14.6: %s, %s: equal and not", told(a), told(b))
			}
			n := 0
			for _, op := range []int{12, 10, 14} {
				if value.Compare(op, a, b).B {
					n++
				}
			}
			hasNaN := a.Kind == 1 && a.X != a.X || b.Kind == 1 && b.X != b.X
			if n > 1 || n == 0 && !hasNaN {
				t.Fatalf("P14.6: %s, %s: %d of below, equal and above", told(a), told(b), n)
			}
		}
	}
}
