package live_test

import (
	"testing"

	"quadrille/api"
	"quadrille/live"
)

// R3: what is handed in and out.

// lists are a node's lists, room too.
func lists(n api.Node) [][]api.Node {
	if cap(n.Args) == 0 {
		return nil
	}
	l := [][]api.Node{n.Args[:cap(n.Args)]}
	for _, a := range n.Args {
		l = append(l, lists(a)...)
	}
	return l
}

// writeOver writes over a list, its room too.
func writeOver[T any](list []T, what T) {
	list = list[:cap(list)]
	for i := range list {
		list[i] = what
	}
}

// ruin writes over all that a content has, its room too.
func ruin(c api.Content) {
	for _, list := range lists(c.F) {
		writeOver(list, api.Node{Kind: -7, S: "over"})
	}
}

// roomy is a node whose lists have room, with something in it.
func roomy(n api.Node) api.Node {
	if len(n.Args) == 0 {
		return n
	}
	args := make([]api.Node, 0, len(n.Args)+3)
	for _, a := range n.Args {
		args = append(args, roomy(a))
	}
	writeOver(args[len(args):], api.Node{Kind: 77})
	n.Args = args
	return n
}

func example(t testing.TB) *live.Sheet {
	t.Helper()
	s := sheetOf(t, "A1", 2.0, "A2", "=A1*3", "A3", "=SUM(A1:A2)", "B1", `=A3&"!"`, "D4", "=IF(SUM(A1:A3,MAX(A1,B2))>2,-A1%,B1&A2)", "D5", "x")
	set(t, s, "A1", 3.0)
	return s
}

// TestAnswersAreNewMemory: each answer is written over, its room too, and grown; the sheet is as it was.
func TestAnswersAreNewMemory(t *testing.T) {
	s := example(t)
	was := toldSheet(s)
	over := api.Addr{Col: 9, Row: 9}
	for what, f := range map[string]func(){
		"Worked":  func() { writeOver(s.Worked(), over) },
		"Changed": func() { writeOver(s.Changed(), over) },
		"Users":   func() { writeOver(s.Users(cell("A1")), over) },
		"growing": func() {
			_, _, _ = append(s.Worked(), over), append(s.Changed(), over), append(s.Users(cell("A1")), over)
		},
		"Content": func() {
			for _, c := range s.Cells() {
				ruin(s.Content(c.At))
			}
		},
		"Cells": func() {
			l := s.Cells()
			for _, c := range l[:cap(l)] {
				ruin(c.C)
			}
			writeOver(l, api.Cell{At: over, V: val("over")})
		},
		"Grid": func() {
			g := s.Grid()
			for at, c := range g.All() {
				ruin(c)
				g.Put(at, api.Content{})
			}
		},
	} {
		for range 2 {
			f()
			sameTold(t, "R3: the sheet, "+what+" written over", toldSheet(s), was)
		}
	}
}

// TestAnswersShareNothing: nor do two answers, or two cells of one answer.
func TestAnswersShareNothing(t *testing.T) {
	s := live.New()
	same := roomy(fx("SUM(A1:A3,MAX(A1,B2),IF(A1>1,2,3))").F)
	var batch []api.Put
	for row := 4; row < 9; row++ {
		batch = append(batch, api.Put{At: xy(1, row), C: api.Content{Kind: api.Formula, F: same}}) // one list of Args for all
	}
	taken(t, s, batch)
	want := toldNode(same)
	l := s.Cells()
	for i := range l {
		ruin(l[i].C)
		for _, c := range l[i+1:] {
			if toldNode(c.C.F) != want {
				t.Errorf("R3: %s sees what is done to %s", name(c.At), name(l[i].At))
			}
		}
	}
	a, b := s.Worked(), s.Changed()
	other, more := s.Worked(), s.Changed()
	writeOver(a, xy(9, 9))
	writeOver(b, xy(8, 8))
	sameCells(t, "R3: another Worked", other, cells("A4 A5 A6 A7 A8"))
	sameCells(t, "R3: another Changed", more, cells("A4 A5 A6 A7 A8"))
	o := s.Copy()
	for _, list := range [][]api.Addr{s.Worked(), s.Changed()} {
		writeOver(list, xy(9, 9))
	}
	did(t, o, "A4 A5 A6 A7 A8", "A4 A5 A6 A7 A8")
}

// TestPutsAreNeitherChangedNorKept: puts and their contents, their room too, are written over behind Set, taken or refused.
func TestPutsAreNeitherChangedNorKept(t *testing.T) {
	for _, last := range []api.Put{{At: cell("F1"), C: content(1.0)}, {At: cell("A1"), C: fx("C1")}, {At: cell("B1"), C: content(1.0)}, {At: xy(0, 0)}} {
		s := example(t)
		was := toldSheet(s)
		room := make([]api.Put, 0, 9)
		batch := append(room, puts("D5", "=SUM(A1:A2,MAX(A1,A2))", "B1", "=IF(A1,1,2)", "C1", "=D5", "E1", "y")...)
		for i := range batch {
			batch[i].C.F = roomy(batch[i].C.F)
		}
		batch = append(batch, last)
		writeOver(batch[len(batch):], api.Put{At: xy(7, 7)})
		before := toldPuts(batch)
		_, err := s.Set(batch...)
		sameTold(t, "R3: the puts behind Set", toldPuts(batch), before)
		behind := toldSheet(s)
		for _, p := range batch {
			ruin(p.C)
		}
		writeOver(batch, api.Put{At: xy(3, 3), C: content("over")})
		sameTold(t, "R3: the sheet, the puts written over", toldSheet(s), behind)
		if err != api.OK {
			sameTold(t, "P20.1: the sheet behind what is refused", behind, was)
		}
		// What is worked out anew goes by the contents as they were put.
		set(t, s, "A1", 4.0)
		isWhole(t, "behind the puts that were written over", s)
	}
}

// toldPuts is all that puts have, their room too.
func toldPuts(l []api.Put) string {
	text := ""
	for _, p := range l[:cap(l)] {
		text += name(p.At) + ": " + toldContent(p.C)
		for _, list := range lists(p.C.F) {
			for _, n := range list {
				text += " " + toldNode(n)
			}
		}
		text += "\n"
	}
	return text
}

// TestFromKeepsNothing: the grid stays as it was, and what is done to its sheet's contents it doesn't see.
func TestFromKeepsNothing(t *testing.T) {
	s := example(t)
	g := s.Grid()
	o, err := live.From(g)
	if err != api.OK {
		t.Fatalf("P20.4: error %d", err)
	}
	was := toldSheet(o)
	if !g.Equal(s.Grid()) {
		t.Error("R3: From has changed its grid")
	}
	for at := range g.All() {
		g.Put(at, content("over"))
	}
	sameTold(t, "R3: a sheet of From, the grid put over", toldSheet(o), was)
}
