package desk

import (
	"strings"

	"quadrille/addr"
	"quadrille/api"
	"quadrille/show"
)

// The kinds of what stands behind a command's name. Of none there is nothing.
const (
	none = iota
	aCell
	anArea
	aFormat
	aNumber
	someBytes
	theRest
)

// A word is a piece of a line, and where it stands there.
type word struct {
	text string
	at   int
}

func (w word) end() int { return w.at + len(w.text) }

// given is what a line gives to its command.
type given struct {
	cell    api.Addr
	area    api.Area
	format  api.Format
	numbers [mostWords]int // by the places of their words
	bytes   string
	rest    word
}

// read is a line's command, and what the line gives to it.
func read(line string) (command, given) {
	if len(line) > api.MaxLine {
		refuse(api.ErrLong, 0)
	}
	if at := strings.IndexByte(line, '\n'); at >= 0 {
		refuse(api.ErrForm, at)
	}
	first := nextWord(line, 0)
	c, is := find(first.text)
	if !is {
		refuse(api.ErrCommand, first.at)
	}
	var g given
	// That all words are there, and no more, comes ahead of what they say.
	for i, w := range split(line, first.end(), c.takes) {
		g.take(i, c.takes[i], w)
	}
	return c, g
}

// split are the words of those kinds, from a place on up to the line's end.
func split(line string, from int, takes kinds) [mostWords]word {
	var words [mostWords]word
	for i, kind := range takes {
		switch kind {
		case none:
			continue
		case theRest:
			words[i] = restOf(line, from)
		default:
			words[i] = nextWord(line, from)
			if words[i].text == "" {
				refuse(api.ErrCommand, len(line))
			}
		}
		from = words[i].end()
	}
	if more := nextWord(line, from); more.text != "" {
		refuse(api.ErrCommand, more.at)
	}
	return words
}

// nextWord is the first word from a place on; one without text, at the line's end, if there is none.
func nextWord(line string, from int) word {
	for from < len(line) && line[from] == ' ' {
		from++
	}
	text, _, _ := strings.Cut(line[from:], " ")
	return word{text, from}
}

// restOf is what stands behind a word's end and the blank that follows it.
func restOf(line string, end int) word {
	if end == len(line) {
		return word{at: end}
	}
	return word{line[end+1:], end + 1}
}

// take takes what a word of a kind says.
func (g *given) take(i, kind int, w word) {
	var err api.Errno
	switch kind {
	case aCell:
		var r api.Ref
		r, err = addr.Parse(w.text)
		g.cell = r.Addr
	case anArea:
		g.area, err = addr.ParseArea(w.text)
	case aFormat:
		g.format, err = show.Read(w.text)
	case aNumber:
		g.numbers[i], err = numberOf(w.text)
	case someBytes:
		g.bytes, err = bytesOf(w.text)
	case theRest:
		g.rest = w
	}
	must(err, w.at)
}
