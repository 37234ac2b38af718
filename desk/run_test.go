package desk_test

import (
	"fmt"
	"slices"
	"strings"
	"testing"

	"quadrille/api"
	"quadrille/desk"
)

// P25.2: scripts. P25.3: the commands' words.

// runs holds what a script answers against a text.
func runs(t testing.TB, script, want string) {
	t.Helper()
	if got, bad := desk.Run(script); bad != (api.Mishap{}) || got != want {
		t.Errorf("P25.2: %q: %q, error %d at %d, not %q", short(script), short(got), bad.Code, bad.At, short(want))
	}
}

func TestRun(t *testing.T) {
	runs(t, "put A1 7\nput A2 =A1*2\nget A2\ntyped A2\nusers A1\n", "14\n=A1*2\nA2\n")
	runs(t, "put A1 1\nwrite\ncount\n", "quadrille 1\nA1 1\nend 1\n\n1\n")
	runs(t, "put A1 1\ntable A1:B2 g0\ncount\n", "1,\n,\n\n1\n")
	runs(t, "pack\n", emptyFile+"\n")
	runs(t, "unpack "+fileOf(t, "A1", "'a\n", "A2", "'\n")+"\nget A1\nget A2", "a\n\n\n\n")
}

// Nothing at all stands for an answer that is nothing.
func TestRunOfNothing(t *testing.T) {
	runs(t, "", "")
	runs(t, "\n", "")
	runs(t, "\n\n\n", "")
	runs(t, "# x", "")
	runs(t, "   ", "")
	runs(t, "get A1", "")
	runs(t, "put A1 '\nget A1\nusers A1\nempty A1\nbounds\nbegin\nend", "")
}

// Lines stand between the bytes 10; behind a last one there is none.
func TestRunsLines(t *testing.T) {
	for _, script := range []string{"count\nput A1 1\ncount", "count\nput A1 1\ncount\n", "\ncount\n\nput A1 1\n\n\ncount\n\n", "count\n# put B1 1\nput A1 1\n   \n count \n"} {
		runs(t, script, "0\n1\n")
	}
	runs(t, "get", "error 60 3\n")
	runs(t, "get\n", "error 60 3\n")
	runs(t, "get\n\n", "error 60 3\n")
	runs(t, "count\r\ncount\r\n", "error 60 0\nerror 60 0\n")
	runs(t, "put A1 x\r\nget A1\n", "x\r\n")
}

// A mishap is told by its number and its place, and the next line is done all the same.
func TestRunsMishaps(t *testing.T) {
	runs(t, "nothing\nget\nget A0\nget A1 B2\nrows 1 x\nget IW1\nend\nput A1 =foo(1)\nput A1 =1+\nput A1 =A1\nrows 0 1\nunpack -\ncount\n",
		"error 60 0\nerror 60 3\nerror 3 4\nerror 60 7\nerror 3 7\nerror 20 4\nerror 43 0\nerror 21 8\nerror 32 10\nerror 40 0\nerror 1 0\nerror 50 0\n0\n")
	runs(t, "begin\nempty A1\nput A1 1\nend\nend\nbegin\nput B1 2\ndrop\ncount", "error 42 1\nerror 43 0\n0\n")
	runs(t, strings.Repeat("x", api.MaxLine+1)+"\ncount", "error 2 0\n0\n")
	runs(t, strings.Repeat("x", api.MaxLine)+"\ncount", "error 60 0\n0\n")
	runs(t, padded("get", api.MaxLine)+"\n", fmt.Sprintf("error 60 %d\n", api.MaxLine))
}

func TestRunsSize(t *testing.T) {
	for _, script := range []string{strings.Repeat("\n", api.MaxFile), blanks(api.MaxFile), "#" + strings.Repeat("x", api.MaxFile-1)} {
		runs(t, script, "")
		if got, bad := desk.Run(script + "\n"); got != "" || bad != (api.Mishap{Code: api.ErrLong}) {
			t.Errorf("P25.2: a script of %d bytes: %q, %+v", len(script)+1, short(got), bad)
		}
	}
	runs(t, "count\n"+strings.Repeat("#\n", api.MaxFile/2-5)+"x\ny", "0\nerror 60 0\nerror 60 0\n")
	runs(t, padded("count", api.MaxFile), "error 2 0\n")
	runs(t, strings.Repeat("x\n", api.MaxFile/16), strings.Repeat("error 60 0\n", api.MaxFile/16))
	if got, bad := desk.Run("count\n" + strings.Repeat("x\n", api.MaxFile)); got != "" || bad != (api.Mishap{Code: api.ErrLong}) {
		t.Errorf("P25.2: a long script: %q, %+v", short(got), bad)
	}
}

// Each script has a desk of its own.
func TestRunsApart(t *testing.T) {
	for range 2 {
		runs(t, "count\nput A1 1\nbegin\nput B1 1\ncount", "0\n1\n")
	}
}

// The ten examples of the whole.
func TestExamplesOfTheWhole(t *testing.T) {
	for _, c := range []struct{ lines, answers string }{
		{"put A1 0.1|put A2 0.2|put A3 =A1+A2|get A3|show A3 f2|show A3 f20", "0.30000000000000004|0.30|0.30000000000000004441|"},
		{"put A1 1e16|put A2 1|put A3 -1e16|put B1 =SUM(A1:A3)|put B2 =A1+A2+A3|get B1|get B2", "1|0|"},
		{"put A1 =A2|put A2 =A1+1|get A1", "error 40 0|0|"},
		{"put A1 -0|put A2 =A1+0|put A3 =1/A1|put A4 =A1=A2|get A1|get A2|get A3|get A4", "-0|0|#DIV!|TRUE|"},
		{"put A1 =SINGLE(0.1)|put A2 =TEXT(2/3,\"q2\")|put A3 =ROUND(2.675,2)|get A1|get A2|get A3", "0.10000000149011612|2/3|2.67|"},
		{"put A1 1|put A2 =A1*2|put A1 5|undo|get A2|redo|get A2|backs", "2|10|3 0|"},
		{"put A1 1|put A2 =A1*2|rows 1 1|typed A3|rows 1 -1|typed A2|rows 1 -1|typed A1|get A1", "=A2*2|=A1*2|=#REF!*2|#REF!|"},
		{"put A1 0.1|put B1 'a|put A2 =SUM(A1:B1)%|write", "quadrille 1|A1 0.1|B1 'a|A2 =SUM(A1:B1)%|end 3||"},
		{"put A1 Inf|put A2 =A1-A1|put A3 =A2=A2|put A4 1e308|put A5 =A4*10|get A2|get A3|get A5", "NaN|FALSE|#NUM!|"},
		{"begin|put A1 =B1*2|put B1 3|end|get A1|count|bounds|users B1|copy A1:A1 A2|typed A2", "6|2|A1:B1|A1|=B2*2|"},
	} {
		runs(t, strings.ReplaceAll(c.lines, "|", "\n"), strings.ReplaceAll(c.answers, "|", "\n"))
	}
}

func TestNames(t *testing.T) {
	want := strings.Fields("backs begin bounds clear cols copy count drop empty end fill get move pack put redo row rows show table typed undo unpack users write")
	if got := desk.Names(); !slices.Equal(got, want) {
		t.Errorf("P25.3: %v, not %v", got, want)
	}
	var names []string
	for _, c := range commands() {
		names = append(names, c.name)
	}
	if slices.Sort(names); !slices.Equal(names, want) {
		t.Errorf("the tests know %v, not %v", names, want)
	}
	// Just these words are commands.
	for _, name := range want {
		if _, bad := desk.New().Do(name); bad.Code == api.ErrCommand && bad.At == 0 {
			t.Errorf("P25.3: %s is no command", name)
		}
	}
}

func TestNamesAreNew(t *testing.T) {
	l := desk.Names()
	for i := range l[:cap(l)] {
		l[:cap(l)][i] = "x"
	}
	if got := desk.Names(); got[0] != "backs" || len(got) != 25 {
		t.Errorf("R3: Names: %v", got)
	}
	says(t, desk.New(), "backs", "0 0")
}
