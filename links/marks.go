package links

import (
	"iter"
	"math/bits"
)

// wordBits are how many places a word of marks has.
const wordBits = 64

// marks are some of a list's places, a bit each, so that many are asked at one time.
type marks []uint64

// wordsOf is how many words so many places need.
func wordsOf(places int) int { return (places + wordBits - 1) / wordBits }

// newMarks have none of so many places.
func newMarks(places int) marks { return make(marks, wordsOf(places)) }

// manyMarks are so many marks, out of one piece of memory.
func manyMarks(count, places int) []marks {
	words := wordsOf(places)
	memory := make(marks, count*words)
	list := make([]marks, count)
	for i := range list {
		list[i] = memory[i*words : (i+1)*words]
	}
	return list
}

func (m marks) put(place int) { m[place/wordBits] |= 1 << (place % wordBits) }

func (m marks) drop(place int) { m[place/wordBits] &^= 1 << (place % wordBits) }

func (m marks) has(place int) bool { return m[place/wordBits]>>(place%wordBits)&1 == 1 }

// all are the places, rising.
func (m marks) all() iter.Seq[int] {
	return func(yield func(int) bool) {
		for i, word := range m {
			for ; word != 0; word &= word - 1 {
				if !yield(i*wordBits + bits.TrailingZeros64(word)) {
					return
				}
			}
		}
	}
}

// below has the bits of a word below a place, which may be beyond the word on either side.
func below(place int) uint64 { return 1<<max(place, 0) - 1 }
