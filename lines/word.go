package lines

import (
	"strings"
	"unicode/utf8"

	"quadrille/api"
	"quadrille/number"
	"quadrille/value"
	"quadrille/write"
)

// What a formula and a text begin with, where they are typed, and in lines.
const (
	formulaMark = '='
	textMark    = '\''
)

// word is what a plain word says, if that is no text.
func word(s string) (api.Value, bool) {
	if x, err := number.Parse(s); err == api.OK {
		return value.OfNumber(x), true
	}
	if b, fault := value.Bool(value.OfText(s)); fault == 0 {
		return value.OfTruth(b), true
	}
	if f, err := value.ParseFault(s); err == api.OK {
		return value.OfFault(f), true
	}
	return api.Value{}, false
}

// wordText is the plain word of a number, a truth or a fault; of a blank it is nothing.
func wordText(v api.Value) string {
	switch v.Kind {
	case api.Number:
		return number.Short(v.X)
	case api.Fault:
		text, _ := value.FaultText(v.F)
		return text
	}
	text, _ := value.Str(v)
	return text
}

// bare is the content of a text without a mark: what its word says, but for blanks at both ends, or else itself, blanks and all.
func bare(s string) (api.Content, api.Errno) {
	if v, is := word(strings.Trim(s, " ")); is {
		return api.Content{Kind: api.Plain, V: v}, api.OK
	}
	return kept(s)
}

// kept is the content of a text, if a cell may have it.
func kept(s string) (api.Content, api.Errno) {
	switch {
	case !utf8.ValidString(s):
		return api.Content{}, api.ErrForm
	case len(s) > api.MaxText:
		return api.Content{}, api.ErrLong
	}
	// A piece of a great text would keep all of it.
	return api.Content{Kind: api.Plain, V: value.OfText(strings.Clone(s))}, api.OK
}

// formulaText is a formula's text with its mark.
func formulaText(n api.Node) (string, api.Errno) {
	text, err := write.Text(n)
	if err != api.OK {
		return "", err
	}
	return string(formulaMark) + text, api.OK
}
