package desk

import (
	"strconv"
	"strings"

	"quadrille/addr"
	"quadrille/api"
	"quadrille/grid"
	"quadrille/lines"
	"quadrille/packed"
	"quadrille/show"
	"quadrille/value"
)

// The commands that ask, and change nothing.

func (d *Desk) backs(given) string {
	return strconv.Itoa(d.book.Backs()) + " " + strconv.Itoa(d.book.Agains())
}

func (d *Desk) get(g given) string { return shown(d.book.Value(g.cell)) }

func (d *Desk) show(g given) string {
	v := d.book.Value(g.cell)
	if v.Kind == api.Number {
		return told(show.Show(v.X, g.format))
	}
	return shown(v)
}

func (d *Desk) typed(g given) string { return told(lines.Typed(d.book.Sheet().Content(g.cell))) }

func (d *Desk) users(g given) string {
	var names []string
	for _, at := range d.book.Sheet().Users(g.cell) {
		names = append(names, told(addr.Text(api.Ref{Addr: at})))
	}
	return strings.Join(names, " ")
}

func (d *Desk) count(given) string { return strconv.Itoa(d.grid().Len()) }

func (d *Desk) bounds(given) string {
	a, is := d.grid().Bounds()
	if !is {
		return ""
	}
	return told(addr.AreaText(a))
}

func (d *Desk) table(g given) string {
	return told(lines.Table(d.book.Sheet().Cells(), g.area, g.format))
}

func (d *Desk) write(given) string { return told(lines.Write(d.grid())) }

func (d *Desk) pack(given) string { return digitsOf(told(packed.Pack(d.grid()))) }

// grid has the present contents.
func (d *Desk) grid() *grid.Grid { return d.book.Sheet().Grid() }

// shown is what is seen of a value.
func shown(v api.Value) string {
	if v.Kind == api.Fault {
		return told(value.FaultText(v.F))
	}
	text, _ := value.Str(v)
	return text
}

// told is what a call tells, if it does.
func told(text string, err api.Errno) string {
	must(err, 0)
	return text
}
