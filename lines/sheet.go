package lines

import (
	"strings"

	"quadrille/addr"
	"quadrille/api"
	"quadrille/formula"
	"quadrille/grid"
)

// The first line of a sheet, and the word that begins its last one.
const (
	head    = "quadrille 1\n"
	endMark = "end"
)

// cellLine is the line of a cell.
func cellLine(at api.Addr, c api.Content) (string, api.Errno) {
	name, err := addr.Text(api.Ref{Addr: at})
	if err != api.OK {
		return "", err
	}
	text, err := contentText(c)
	if err != api.OK {
		return "", err
	}
	return name + " " + text + "\n", api.OK
}

// contentText is what a line has of a content.
func contentText(c api.Content) (string, api.Errno) {
	if c.Kind == api.Formula {
		text, err := formulaText(c.F)
		return escaped(text), err
	}
	if c.V.Kind == api.Text {
		return string(textMark) + escaped(c.V.S), api.OK
	}
	return wordText(c.V), api.OK
}

// A reader puts lines into a grid.
type reader struct {
	g    *grid.Grid
	last api.Addr // the cell of the line ahead; ahead of all cells at first
}

// cell reads the line of a cell.
func (r *reader) cell(line string) api.Errno {
	name, text, _ := strings.Cut(line, " ")
	at, is := cellNamed(name)
	switch {
	case !is:
		return api.ErrAddr
	case r.g.Get(at).Kind != api.Empty:
		return api.ErrTwice
	case addr.Order(r.last, at) >= 0:
		return api.ErrForm
	case r.g.Len() == api.MaxCells:
		return api.ErrFull
	}
	c, err := contentRead(text)
	if err != api.OK {
		return err
	}
	r.last = at
	return r.g.Put(at, c)
}

// cellNamed is the cell of just that text.
func cellNamed(name string) (api.Addr, bool) {
	r, err := addr.Parse(name)
	if err != api.OK {
		return api.Addr{}, false
	}
	text, err := addr.Text(api.Ref{Addr: r.Addr})
	return r.Addr, err == api.OK && text == name
}

// contentRead is the content of which a line has just that text.
func contentRead(text string) (api.Content, api.Errno) {
	c, err := contentMeant(text)
	if err != api.OK {
		return api.Content{}, err
	}
	// A number of another form, a formula with a blank in it say the same, but no line has them so.
	if told, err := contentText(c); err != api.OK || told != text {
		return api.Content{}, api.ErrForm
	}
	return c, api.OK
}

// contentMeant is the content that a line's text means, in this form or another.
func contentMeant(text string) (api.Content, api.Errno) {
	if text == "" {
		return api.Content{}, api.ErrForm
	}
	if text[0] != formulaMark && text[0] != textMark {
		v, is := word(text)
		if !is {
			return api.Content{}, api.ErrForm
		}
		return api.Content{Kind: api.Plain, V: v}, api.OK
	}
	s, is := unescaped(text[1:])
	if !is {
		return api.Content{}, api.ErrForm
	}
	if text[0] == formulaMark {
		tree, bad := formula.Parse(s)
		return api.Content{Kind: api.Formula, F: tree}, bad.Code
	}
	c, err := kept(s)
	if err != api.OK {
		return api.Content{}, api.ErrForm
	}
	return c, api.OK
}
