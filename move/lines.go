package move

import "quadrille/api"

// span is lines, from the first one to the last one, each of which is brought so far; if the last one is ahead of the first one, there are none.
type span struct{ first, last, by int }

// kept is the columns and the rows that neither go nor fall off, rising, at their old places and at their new ones.
type kept struct{ cols, rows []span }

// ofLines is what becomes of references when lines are put in or taken out.
func ofLines(cols bool, at, count int) (fate, api.Errno) {
	most := api.MaxRow
	if cols {
		most = api.MaxCol
	}
	if at < 1 || at > most || count < -most || count > most {
		return fate{}, api.ErrArg
	}
	k := kept{cols: spans(1, 0, api.MaxCol), rows: spans(1, 0, api.MaxRow)}
	if cols {
		k.cols = spans(at, count, most)
	} else {
		k.rows = spans(at, count, most)
	}
	return fate{of: k.area}, api.OK
}

// spans are the lines that are kept, of so many, where some are put in or taken out.
func spans(at, count, most int) []span {
	ahead := span{first: 1, last: at - 1}
	if count < 0 {
		return []span{ahead, {first: at - count, last: most, by: count}}
	}
	return []span{ahead, {first: at, last: most - count, by: count}}
}

// area is the least one that has all places to which an area's lines are brought; false, if none of them is kept.
func (k kept) area(a api.Area) (api.Area, bool) {
	left, right, someCols := through(k.cols, a.From.Col, a.To.Col)
	top, bottom, someRows := through(k.rows, a.From.Row, a.To.Row)
	if !someCols || !someRows {
		return api.Area{}, false
	}
	return api.Area{From: api.Addr{Col: left, Row: top}, To: api.Addr{Col: right, Row: bottom}}, true
}

// through are the least and the greatest place to which the lines from one to another one are brought; false, if none of them is kept.
func through(list []span, from, to int) (first, last int, some bool) {
	for _, s := range list {
		low, high := max(from, s.first), min(to, s.last)
		if low > high {
			continue
		}
		if !some {
			first, some = low+s.by, true
		}
		last = high + s.by
	}
	return first, last, some
}
