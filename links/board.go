package links

import (
	"math/bits"
	"slices"

	"quadrille/addr"
	"quadrille/api"
)

// board has cells, and finds those that an area has by whole words of marks: an area may have a million cells, and there may be a million areas.
type board struct {
	cells []api.Addr // in order, each once
	upto  []marks    // by columns from 0 on: the cells that stand in that one or left of it
}

// newBoard has cells that stand in order, each once.
func newBoard(cells []api.Addr) *board {
	b := &board{cells, manyMarks(api.MaxCol+1, len(cells))}
	for place, at := range cells {
		b.upto[at.Col].put(place)
	}
	for col := range api.MaxCol {
		for i, word := range b.upto[col] {
			b.upto[col+1][i] |= word
		}
	}
	return b
}

// ahead is how many of the cells stand ahead of a row.
func (b *board) ahead(row int) int {
	n, _ := slices.BinarySearchFunc(b.cells, api.Addr{Row: row}, addr.Order)
	return n
}

// hasSome tells whether some cell is in one of the areas.
func (b *board) hasSome(areas []api.Area) bool {
	return slices.ContainsFunc(areas, func(a api.Area) bool { return b.piece(a).isSome() })
}

// piece is what a board has of an area: by its rows the places from one on up to another one, by its columns those of them that right has and left hasn't.
type piece struct {
	from, to    int
	left, right marks
}

func (b *board) piece(a api.Area) piece {
	return piece{b.ahead(a.From.Row), b.ahead(a.To.Row + 1), b.upto[a.From.Col-1], b.upto[a.To.Col]}
}

// word is a word of the piece's marks.
func (p piece) word(i int) uint64 {
	return p.right[i] &^ p.left[i] & below(p.to-i*wordBits) &^ below(p.from-i*wordBits)
}

func (p piece) isSome() bool {
	for i := p.from / wordBits; i < wordsOf(p.to); i++ {
		if p.word(i) != 0 {
			return true
		}
	}
	return false
}

// addTo puts the piece's places into marks.
func (p piece) addTo(m marks) {
	for i := p.from / wordBits; i < wordsOf(p.to); i++ {
		m[i] |= p.word(i)
	}
}

// last is the last of the piece's places that marks have too; -1, if there is none.
func (p piece) last(m marks) int {
	for i := wordsOf(p.to) - 1; i >= p.from/wordBits; i-- {
		if word := p.word(i) & m[i]; word != 0 {
			return i*wordBits + bits.Len64(word) - 1
		}
	}
	return -1
}
