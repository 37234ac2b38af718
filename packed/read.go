package packed

import (
	"math"
	"strings"

	"quadrille/addr"
	"quadrille/api"
	"quadrille/grid"
	"quadrille/parts"
)

// sheet is the grid of a file's bytes between its mark and its sum.
func sheet(b string) (g *grid.Grid, err api.Errno) {
	defer func() {
		if thrown := recover(); thrown != nil {
			g, err = nil, thrown.(api.Errno)
		}
	}()
	r := reader{left: b}
	g = grid.New()
	last := api.Addr{} // ahead of all cells
	for range r.number(countSize) {
		at := r.place()
		r.must(addr.Order(last, at) < 0)
		// Put knows which cells there are, which contents may be in one, and how many a grid holds.
		r.must(g.Put(at, r.content()) == api.OK)
		last = at
	}
	r.must(r.left == "")
	return g, api.OK
}

// A reader takes bytes from the left. Where they are no file's, it gives up: that is thrown, and caught in sheet.
type reader struct {
	left  string
	nodes int // how many nodes of the formula at hand were read
}

// must gives up, unless all is well.
func (r *reader) must(well bool) {
	if !well {
		panic(api.ErrForm)
	}
}

// take takes so many bytes.
func (r *reader) take(size int) string {
	r.must(size <= len(r.left))
	taken := r.left[:size]
	r.left = r.left[size:]
	return taken
}

// number takes a number of so many bytes, its lowest byte first.
func (r *reader) number(size int) uint64 {
	n := uint64(0)
	for i, b := range []byte(r.take(size)) {
		n |= uint64(b) << (8 * i)
	}
	return n
}

// small takes a number of one byte.
func (r *reader) small() int { return int(r.number(byteSize)) }

func (r *reader) double() float64 {
	bits := r.number(doubleSize)
	x := parts.One(math.Float64frombits(bits))
	r.must(math.Float64bits(x) == bits)
	return x
}

// text takes a string, in memory of its own, so that a cell's text doesn't hold the whole file.
func (r *reader) text() string {
	return strings.Clone(r.take(int(r.number(lengthSize))))
}

func (r *reader) truth() bool {
	b := r.small()
	r.must(b <= 1)
	return b == 1
}

func (r *reader) place() api.Addr {
	col := int(r.number(placeSize))
	row := int(r.number(placeSize))
	return api.Addr{Col: col, Row: row}
}

func (r *reader) ref() api.Ref {
	at := r.place()
	fixed := r.small()
	r.must(fixed <= colFixed+rowFixed)
	return api.Ref{Addr: at, ColFixed: fixed&colFixed != 0, RowFixed: fixed&rowFixed != 0}
}

// content takes a content that is not empty.
func (r *reader) content() api.Content {
	c := api.Content{Kind: r.small()}
	switch c.Kind {
	case api.Plain:
		c.V = r.value()
	case api.Formula:
		r.nodes = 0
		c.F = r.node()
	default:
		r.must(false)
	}
	return c
}

// value takes a value; whether it may be is asked where it is put.
func (r *reader) value() api.Value {
	v := api.Value{Kind: r.small()}
	switch v.Kind {
	case api.Number:
		v.X = r.double()
	case api.Text:
		v.S = r.text()
	case api.Truth:
		v.B = r.truth()
	case api.Fault:
		v.F = r.small()
	}
	return v
}

// node takes a node; whether it may be is asked where its formula is put. How many there are is asked here: millions could be nested in one another by then.
func (r *reader) node() api.Node {
	r.nodes++
	r.must(r.nodes <= api.MaxNodes)
	n := api.Node{Kind: r.small()}
	r.must(n.Kind < len(shapes))
	for _, field := range shapes[n.Kind].fields {
		r.field(&n, field)
	}
	count := shapes[n.Kind].parts
	if shapes[n.Kind].counted {
		count = r.small()
	}
	for range count {
		n.Args = append(n.Args, r.node())
	}
	return n
}

// field takes a field of a node.
func (r *reader) field(n *api.Node, field int) {
	switch field {
	case fieldX:
		n.X = r.double()
	case fieldS:
		n.S = r.text()
	case fieldB:
		n.B = r.truth()
	case fieldF:
		n.F = r.small()
	case fieldRef:
		n.Ref = r.ref()
	case fieldTo:
		n.To = r.ref()
	case fieldOp:
		n.Op = r.small()
	}
}
