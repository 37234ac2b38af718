package calls

import (
	"strings"

	"quadrille/api"
	"quadrille/show"
	"quadrille/value"
)

// join stops where there is more than a text may have, as areas may show far more.
func join(g *given) api.Value {
	var b strings.Builder
	for _, s := range g.texts(g.args...) {
		if b.Len()+len(s) > api.MaxText {
			return value.OfFault(api.FaultValue)
		}
		b.WriteString(s)
	}
	return value.OfText(b.String())
}

func length(g *given) api.Value { return value.OfNumber(float64(signs(g.text(0)))) }

// signs is how many a text has.
func signs(s string) int64 {
	var n int64
	for range s {
		n++
	}
	return n
}

// past is the place in a text behind its first n signs, its end, if it has fewer.
func past(s string, n int64) int {
	for at := range s {
		if n <= 0 {
			return at
		}
		n--
	}
	return len(s)
}

func left(g *given) api.Value {
	s := g.text(0)
	n := g.whole(1)
	if n < 0 {
		return value.OfFault(api.FaultValue)
	}
	return value.OfText(s[:past(s, n)])
}

func right(g *given) api.Value {
	s := g.text(0)
	n := g.whole(1)
	if n < 0 {
		return value.OfFault(api.FaultValue)
	}
	return value.OfText(s[past(s, signs(s)-n):])
}

func middle(g *given) api.Value {
	s := g.text(0)
	i := g.whole(1)
	n := g.whole(2)
	if i < 1 || n < 0 {
		return value.OfFault(api.FaultValue)
	}
	rest := s[past(s, i-1):]
	return value.OfText(rest[:past(rest, n)])
}

// repeat asks ahead how often the text has room, as their product may be beyond all whole numbers.
func repeat(g *given) api.Value {
	s := g.text(0)
	n := g.whole(1)
	switch {
	case n < 0:
		return value.OfFault(api.FaultValue)
	case s == "":
		return value.OfText("")
	case n > int64(api.MaxText/len(s)):
		return value.OfFault(api.FaultValue)
	}
	return value.OfText(strings.Repeat(s, int(n)))
}

func shown(g *given) api.Value {
	x := g.number(0)
	f, err := show.Read(g.text(1))
	if err != api.OK {
		return value.OfFault(api.FaultValue)
	}
	s, err := show.Show(x, f)
	if err != api.OK {
		return value.OfFault(api.FaultValue)
	}
	return value.OfText(s)
}
