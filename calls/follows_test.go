package calls_test

import (
	"math"
	"math/rand"
	"strings"
	"testing"

	"quadrille/api"
	"quadrille/calls"
	"quadrille/value"
)

// P15.3: what follows; R3: what is handed in.

// call is what a call with right arguments comes to.
func call(t *testing.T, name string, l ...calls.Arg) api.Value {
	t.Helper()
	v, err := calls.Call(name, l...)
	if err != api.OK || !value.Valid(v) {
		t.Fatalf("P15.3: %s of %s: %s %v", name, toldArgs(l), told(v), err)
	}
	return v
}

// randomNumber is a number of any kind, often one of a few, so that some stand there twice.
func randomNumber(r *rand.Rand) float64 {
	switch r.Intn(8) {
	case 0:
		return []float64{0, minus, 1, -1, 2, 0.5}[r.Intn(6)]
	case 1:
		return float64(r.Intn(20) - 10)
	case 2:
		return []float64{most, -most, tiny, -small, inf, -inf, nan, other}[r.Intn(8)]
	case 3:
		return math.Float64frombits(r.Uint64())
	}
	return math.Ldexp(r.Float64()-0.5, r.Intn(200)-100)
}

// cut lays values into areas and among the arguments, anyhow.
func cut(r *rand.Rand, l []api.Value) []calls.Arg {
	var out []calls.Arg
	for len(l) > 0 {
		n := r.Intn(min(len(l), 6) + 1)
		if n == 1 && l[0].Kind == 1 && r.Intn(2) == 0 {
			out = append(out, calls.Arg{V: l[0]})
		} else {
			out = append(out, calls.Arg{Area: true, L: l[:n:n], N: n + 1 + r.Intn(3)})
		}
		if r.Intn(5) == 0 {
			out = append(out, calls.Arg{})
		}
		l = l[n:]
	}
	return append(out, calls.Arg{Area: true, N: 1})
}

func TestOrderAndCutsDontMatter(t *testing.T) {
	r := rand.New(rand.NewSource(153))
	hang := []string{"SUM", "SUMSQ", "AVERAGE", "VAR", "VARP", "STDEV", "STDEVP", "MIN", "MAX", "MEDIAN", "MODE", "COUNT", "COUNTA"}
	for range 400 {
		var l []api.Value
		for range r.Intn(12) {
			l = append(l, val(randomNumber(r)))
		}
		for range r.Intn(3) {
			l = append(l, []api.Value{val("x"), val("7"), val(true)}[r.Intn(3)])
		}
		whole := calls.Arg{Area: true, L: l, N: len(l) + 1}
		for _, name := range hang {
			want := call(t, name, whole)
			for range 3 {
				moved := append([]api.Value(nil), l...)
				r.Shuffle(len(moved), func(i, j int) { moved[i], moved[j] = moved[j], moved[i] })
				check(t, "P15.3", name, cut(r, moved), want)
			}
		}
		k := r.Intn(len(l) + 1)
		check(t, "P15.3", "SUM", []calls.Arg{{Area: true, L: l[:k:k], N: k + 1}, {Area: true, L: l[k:], N: len(l) + 1}}, call(t, "SUM", whole))
	}
}

func TestTwiceIsOnce(t *testing.T) {
	r := rand.New(rand.NewSource(154))
	pool := many()
	for range 3000 {
		pool = append(pool, arg(randomNumber(r)))
	}
	for _, a := range pool {
		if v := call(t, "NOT", a); v.Kind == 3 {
			b, _ := value.Bool(a.V)
			check(t, "P15.3", "NOT", args(v), val(b))
		}
		for _, name := range []string{"ABS", "INT", "TRUNC", "SINGLE"} {
			v := call(t, name, a)
			check(t, "P15.3", name, args(v), v)
		}
	}
}

// randomText has signs of one to four bytes.
func randomText(r *rand.Rand) string {
	var b strings.Builder
	for range r.Intn(12) {
		b.WriteString([]string{"a", "Z", "\x00", "\u00e9", "\u0301", "\u20ac", "\uFFFD", "\U0001F600", "\U0010FFFF"}[r.Intn(9)])
	}
	return b.String()
}

func TestLeftAndMidMakeUpATextAgain(t *testing.T) {
	r := rand.New(rand.NewSource(155))
	for range 2000 {
		s := arg(randomText(r))
		if r.Intn(4) == 0 {
			s = arg(randomNumber(r))
		}
		size := call(t, "LEN", s)
		whole, _ := value.Str(s.V)
		for _, n := range []int{0, 1, r.Intn(14), int(size.X), int(size.X) + 1, 1 << 40} {
			left := call(t, "LEFT", s, arg(n))
			rest := call(t, "MID", s, arg(n+1), arg(size))
			if left.Kind != 2 || rest.Kind != 2 || left.S+rest.S != whole {
				t.Fatalf("P15.3: %q by %d: %q and %q", whole, n, left.S, rest.S)
			}
		}
	}
}

// spoiled are arguments with room behind them, and behind their areas, that holds something.
func spoiled(l []calls.Arg) ([]calls.Arg, [][]api.Value) {
	junk := api.Value{Kind: 1, X: 77}
	room := make([]calls.Arg, 0, len(l)+3)
	var lists [][]api.Value
	for _, a := range l {
		if a.L != nil {
			in := append(append(make([]api.Value, 0, len(a.L)+3), a.L...), junk, junk, junk)
			lists = append(lists, in)
			a.L = in[:len(a.L)]
		}
		room = append(room, a)
	}
	full := room[:cap(room)]
	for i := len(l); i < len(full); i++ {
		full[i] = calls.Arg{V: junk}
	}
	return full, lists
}

// memory is all of it as a text.
func memory(full []calls.Arg, lists [][]api.Value) string {
	var b strings.Builder
	b.WriteString(toldArgs(full))
	for _, l := range lists {
		for _, v := range l {
			b.WriteString(told(v))
		}
	}
	return b.String()
}

func TestArgumentsStayAsTheyWere(t *testing.T) {
	r := rand.New(rand.NewSource(156))
	pool := many()
	for _, name := range names() {
		least, most := takes()[name][0], min(takes()[name][1], 5)
		for range 60 {
			n := least + r.Intn(most-least+1)
			var l []calls.Arg
			for range n {
				l = append(l, pool[r.Intn(len(pool))])
			}
			full, lists := spoiled(l)
			before := memory(full, lists)
			got, _ := calls.Call(name, full[:n]...)
			if memory(full, lists) != before {
				t.Fatalf("R3: %s has changed its arguments %s", name, toldArgs(l))
			}
			want := told(got)
			for i := range full {
				full[i] = calls.Arg{Area: true, V: val("over"), N: -1}
			}
			for _, in := range lists {
				for i := range in {
					in[i] = val("over")
				}
			}
			if told(got) != want {
				t.Fatalf("R3: %s: %s, then %s", name, want, told(got))
			}
			check(t, "R4", name, l, got)
		}
	}
}
