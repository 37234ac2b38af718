package desk

import (
	"strings"

	"quadrille/api"
	"quadrille/grid"
	"quadrille/lines"
	"quadrille/move"
	"quadrille/packed"
)

// The commands that change something. None of them answers anything.

func (d *Desk) put(g given) string {
	// The book keeps pieces of what is typed, which would keep all of the line.
	c, bad := lines.Entry(strings.Clone(g.rest.text))
	must(bad.Code, g.rest.at+bad.At)
	return d.lay(api.Put{At: g.cell, C: c})
}

func (d *Desk) empty(g given) string { return d.lay(api.Put{At: g.cell}) }

// lay gathers a put, or does it.
func (d *Desk) lay(p api.Put) string {
	if !d.gathers {
		return d.batch(p)
	}
	// With one too many the batch is refused, whatever they are: no more need be kept.
	if len(d.puts) <= api.MaxBatch {
		d.puts = append(d.puts, p)
	}
	return ""
}

// batch does puts at one time. An error stands at the number of its put.
func (d *Desk) batch(puts ...api.Put) string {
	number, err := d.book.Do(puts...)
	must(err, number)
	return ""
}

func (d *Desk) begin(given) string {
	d.gathers = true
	return ""
}

func (d *Desk) end(g given) string {
	puts := d.puts
	d.drop(g) // ahead of the batch: also if that is refused
	return d.batch(puts...)
}

func (d *Desk) drop(given) string {
	d.gathers, d.puts = false, nil
	return ""
}

func (d *Desk) row(g given) string {
	puts, bad := lines.Numbers(g.rest.text, g.cell)
	must(bad.Code, g.rest.at+bad.At)
	return d.batch(puts...)
}

func (d *Desk) undo(given) string { return done(d.book.Undo()) }

func (d *Desk) redo(given) string { return done(d.book.Redo()) }

func (d *Desk) rows(g given) string {
	return d.become(move.Rows(d.grid(), g.numbers[0], g.numbers[1]))
}

func (d *Desk) cols(g given) string {
	return d.become(move.Cols(d.grid(), g.numbers[0], g.numbers[1]))
}

func (d *Desk) copy(g given) string { return d.become(move.Copy(d.grid(), g.area, g.cell)) }

func (d *Desk) fill(g given) string { return d.become(move.Fill(d.grid(), g.cell, g.area)) }

func (d *Desk) move(g given) string { return d.become(move.Move(d.grid(), g.area, g.cell)) }

func (d *Desk) clear(g given) string { return d.become(move.Clear(d.grid(), g.area)) }

func (d *Desk) unpack(g given) string { return d.become(packed.Unpack(g.bytes)) }

// become leads the book to other contents, if there are any.
func (d *Desk) become(other *grid.Grid, err api.Errno) string {
	must(err, 0)
	return done(d.book.Become(other))
}

// done is the answer of what was done, if it was.
func done(err api.Errno) string {
	must(err, 0)
	return ""
}
