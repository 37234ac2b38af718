package packed

import (
	"math"
	"strings"

	"quadrille/api"
	"quadrille/parts"
)

// A writer lays bytes down, one behind the other.
type writer struct{ strings.Builder }

// number lays down a number of so many bytes, its lowest byte first.
func (w *writer) number(n uint64, size int) {
	for range size {
		w.WriteByte(byte(n))
		n >>= 8
	}
}

// small lays down a number of one byte.
func (w *writer) small(n int) { w.number(uint64(n), byteSize) }

func (w *writer) double(x float64) { w.number(math.Float64bits(parts.One(x)), doubleSize) }

// text lays down a string; none that a cell may have is longer than two bytes can say.
func (w *writer) text(s string) {
	w.number(uint64(len(s)), lengthSize)
	w.WriteString(s)
}

func (w *writer) truth(b bool) {
	if b {
		w.small(1)
	} else {
		w.small(0)
	}
}

func (w *writer) place(at api.Addr) {
	w.number(uint64(at.Col), placeSize)
	w.number(uint64(at.Row), placeSize)
}

func (w *writer) ref(r api.Ref) {
	w.place(r.Addr)
	fixed := 0
	if r.ColFixed {
		fixed += colFixed
	}
	if r.RowFixed {
		fixed += rowFixed
	}
	w.small(fixed)
}

// cell lays down a cell that is not empty.
func (w *writer) cell(at api.Addr, c api.Content) {
	w.place(at)
	w.small(c.Kind)
	if c.Kind == api.Formula {
		w.node(c.F)
	} else {
		w.value(c.V)
	}
}

func (w *writer) value(v api.Value) {
	w.small(v.Kind)
	switch v.Kind {
	case api.Number:
		w.double(v.X)
	case api.Text:
		w.text(v.S)
	case api.Truth:
		w.truth(v.B)
	case api.Fault:
		w.small(v.F)
	}
}

func (w *writer) node(n api.Node) {
	w.small(n.Kind)
	for _, field := range shapes[n.Kind].fields {
		w.field(n, field)
	}
	if shapes[n.Kind].counted {
		w.small(len(n.Args))
	}
	for _, part := range n.Args {
		w.node(part)
	}
}

// field lays down a field of a node.
func (w *writer) field(n api.Node, field int) {
	switch field {
	case fieldX:
		w.double(n.X)
	case fieldS:
		w.text(n.S)
	case fieldB:
		w.truth(n.B)
	case fieldF:
		w.small(n.F)
	case fieldRef:
		w.ref(n.Ref)
	case fieldTo:
		w.ref(n.To)
	case fieldOp:
		w.small(n.Op)
	}
}
