package desk_test

import (
	"fmt"
	"maps"
	"math/rand"
	"slices"
	"strings"
	"testing"

	"quadrille/addr"
	"quadrille/api"
	"quadrille/desk"
	"quadrille/lines"
)

// Lines drawn by chance: a desk answers what the model does, line by line, whatever was refused in between.
func TestModel(t *testing.T) {
	r := chance{rand.New(rand.NewSource(1))}
	done, refused := map[string]int{}, map[api.Errno]int{}
	for range 1000 {
		d, m := desk.New(), newModel()
		var script []string
		for range 60 {
			line := r.line()
			script = append(script, line)
			got, bad := d.Do(line)
			want, due := m.do(line)
			if got != want || bad != due {
				t.Fatalf("P25.1: %q: %q, error %d at %d, not %q, error %d at %d, behind\n%q", line, short(got), bad.Code, bad.At, short(want), due.Code, due.At, script)
			}
			if words := strings.Fields(line); bad.Code != api.OK {
				refused[bad.Code]++
			} else if len(words) > 0 {
				done[words[0]]++
			}
		}
		for _, line := range []string{"write", "pack", "backs", "table A1:D5 g17", "end", "undo", "redo", "write"} {
			got, bad := d.Do(line)
			if want, due := m.do(line); got != want || bad != due {
				t.Fatalf("P25.1: %q: %q, error %d, not %q, error %d, behind\n%q", line, short(got), bad.Code, short(want), due.Code, script)
			}
		}
	}
	for name := range forms {
		if done[name] < 150 {
			t.Errorf("too few of a kind: %s was done %d times", name, done[name])
		}
	}
	for _, code := range []api.Errno{api.ErrForm, api.ErrArg, api.ErrAddr, api.ErrName, api.ErrEnd, api.ErrSyntax, api.ErrCycle, api.ErrTwice, api.ErrBack, api.ErrHead, api.ErrSum, api.ErrCommand} {
		if refused[code] < 50 {
			t.Errorf("too few of a kind: error %d came %d times", code, refused[code])
		}
	}
}

// P25.4: Run of a script is what a desk answers line by line.
func TestRunIsLineByLine(t *testing.T) {
	r := chance{rand.New(rand.NewSource(2))}
	for range 700 {
		var script []string
		for range r.Intn(40) {
			script = append(script, strings.ReplaceAll(r.line(), "\n", " "))
		}
		d := desk.New()
		want := ""
		for _, line := range script {
			got, bad := d.Do(line)
			if bad.Code != api.OK {
				got = fmt.Sprintf("error %d %d", int(bad.Code), bad.At)
			}
			if got != "" {
				want += got + "\n"
			}
		}
		runs(t, strings.Join(script, "\n"), want)
		if len(script) > 0 {
			runs(t, strings.Join(script, "\n")+"\n", want)
		}
	}
}

// question is a line that asks, right or wrong.
func (r chance) question() string {
	return strings.Join(r.words(r.pick("backs", "get", "show", "typed", "users", "count", "bounds", "table", "write", "pack")), " ")
}

// P25.4: questions change nothing: a desk that is asked all the time answers as one that isn't.
func TestQuestionsChangeNothing(t *testing.T) {
	r := chance{rand.New(rand.NewSource(3))}
	for range 400 {
		asked, left := desk.New(), desk.New()
		for range 40 {
			for range r.Intn(4) {
				line := r.question()
				first, bad := asked.Do(line)
				again, worse := asked.Do(line)
				if first != again || bad != worse {
					t.Fatalf("P25.4: %q: %q, then %q", line, short(first), short(again))
				}
			}
			line := r.line()
			got, bad := asked.Do(line)
			want, due := left.Do(line)
			if got != want || bad != due {
				t.Fatalf("P25.4: %q of a desk that was asked: %q, error %d, not %q, error %d", line, short(got), bad.Code, short(want), due.Code)
			}
		}
		if state(t, asked) != state(t, left) {
			t.Fatal("P25.4: questions have changed something")
		}
	}
}

// deskByChance is a desk on which lines drawn by chance were done, and which doesn't gather.
func (r chance) deskByChance() *desk.Desk {
	d := desk.New()
	for range 30 {
		d.Do(r.line())
	}
	d.Do("end")
	return d
}

// P25.4, Q6: unpack of what pack answered, on another desk, is the same sheet.
func TestPackedThereAndBack(t *testing.T) {
	r := chance{rand.New(rand.NewSource(4))}
	for range 500 {
		d, o := r.deskByChance(), r.deskByChance()
		file, bad := d.Do("pack")
		if bad.Code != api.OK {
			t.Fatalf("P25.4: pack: error %d", bad.Code)
		}
		does(t, o, "unpack "+file)
		sameSheet(t, o, d)
		says(t, o, "pack", file)
	}
}

// P25.4, Q6: put of what typed answered, into an empty cell of the same place, is the same content.
func TestTypedThereAndBack(t *testing.T) {
	r := chance{rand.New(rand.NewSource(5))}
	cells := 0
	for range 500 {
		d, o := r.deskByChance(), desk.New()
		for _, at := range r.filled(t, d) {
			typed, bad := d.Do("typed " + at)
			if bad.Code != api.OK || strings.Contains(typed, "\n") {
				t.Fatalf("typed %s: %q, error %d", at, typed, bad.Code)
			}
			does(t, o, "put "+at+" "+typed)
			says(t, o, "typed "+at, typed)
			cells++
		}
		sameSheet(t, o, d)
		// Into a cell of the sheet itself that was made empty, too.
		for _, at := range r.filled(t, d) {
			typed, _ := d.Do("typed " + at)
			does(t, d, "empty "+at, "put "+at+" "+typed)
			sameSheet(t, d, o)
		}
	}
	if cells < 1500 {
		t.Errorf("too few of a kind: %d cells", cells)
	}
}

// filled are the cells that are not empty, in an order by chance.
func (r chance) filled(t testing.TB, d *desk.Desk) []string {
	t.Helper()
	text, bad := d.Do("write")
	g, no := lines.Read(text)
	if bad.Code != api.OK || no.Code != api.OK {
		t.Fatalf("Q6: write: error %d, read: error %d", bad.Code, no.Code)
	}
	names := map[string]struct{}{}
	for at := range g.All() {
		name, _ := addr.Text(api.Ref{Addr: at})
		names[name] = struct{}{}
	}
	l := slices.Sorted(maps.Keys(names))
	r.Shuffle(len(l), func(i, j int) { l[i], l[j] = l[j], l[i] })
	return l
}

// sameSheet holds all that two desks tell of their sheets against each other.
func sameSheet(t testing.TB, d, o *desk.Desk) {
	t.Helper()
	for _, line := range []string{"write", "pack", "count", "bounds", "table A1:D9 g0", "table A1:D9 f3", "get A1", "show B2 s3", "typed C3", "users A1"} {
		got, bad := d.Do(line)
		want, due := o.Do(line)
		if got != want || bad != due {
			t.Fatalf("P25.4: %s: %q, error %d, not %q, error %d", line, short(got), bad.Code, short(want), due.Code)
		}
	}
}

// Q9: the same number is shown the same whether it came out of a formula, a file, or a hand.
func TestShownTheSame(t *testing.T) {
	r := chance{rand.New(rand.NewSource(6))}
	for range 1000 {
		x := r.pick("0.1", "-0", "1e21", "2.5", "NaN", "-Inf", "5e-324", "1.7976931348623157e308", fmt.Sprint(r.NormFloat64()), fmt.Sprint(r.Intn(1000)))
		d := deskOf(t, "put A1 "+x, "put B1 =A1", "row C1 "+x)
		d2 := deskOf(t, "unpack "+fileOf(t, "A1", x))
		format := r.pick("g0", "g17", "f2", "f20", "f0,:30", "s5", "p3", "q3")
		want, bad := d.Do("show A1 " + format)
		if bad.Code != api.OK {
			t.Fatalf("show %s: error %d", format, bad.Code)
		}
		says(t, d, "show B1 "+format, want)
		says(t, d, "show C1 "+format, want)
		says(t, d2, "show A1 "+format, want)
		plain, _ := d.Do("get A1")
		says(t, d, "get B1", plain)
		says(t, d, "typed A1", plain)
		says(t, d2, "get A1", plain)
	}
}
