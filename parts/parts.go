// Package parts is layer 1: see shared/doc/01-parts.md.
package parts

import (
	"math"
	"math/bits"

	"quadrille/api"
)

// The kinds of numbers.
const (
	NaN = 1 + iota
	Infinity
	Nought
	Subnormal
	Normal
)

// How binary64 lays its bits.
const (
	signBit     = 1 << 63
	hiddenBit   = 1 << 52 // of a normal number's whole part, not stored
	infinityPat = 0x7FF << 52
	nanPat      = 0x7FF8 << 48
)

// A binary kind of numbers has whole parts of so many bits, none of which is worth less than 2^least, and ends below 2^top.
const (
	doubleBits, doubleLeast, doubleTop = 53, -1074, 1024
	singleBits, singleLeast, singleTop = 24, -149, 128
)

// Nan is the NaN.
func Nan() float64 { return math.Float64frombits(nanPat) }

// One is a number, the NaN in the place of every other one.
func One(x float64) float64 {
	if Class(x) == NaN {
		return Nan()
	}
	return x
}

// Class is a number's kind.
func Class(x float64) int {
	b := magnitude(x)
	switch {
	case b > infinityPat:
		return NaN
	case b == infinityPat:
		return Infinity
	case b == 0:
		return Nought
	case b < hiddenBit:
		return Subnormal
	}
	return Normal
}

// magnitude is a number's bits but for its sign: they stand as the magnitudes do.
func magnitude(x float64) uint64 { return math.Float64bits(x) &^ signBit }

// Negative tells whether it has the sign of those below nought.
func Negative(x float64) bool {
	return Class(x) != NaN && math.Float64bits(x)&signBit != 0
}

// Split takes a finite number apart.
func Split(x float64) (bool, uint64, int, api.Errno) {
	b := magnitude(x)
	switch Class(x) {
	case NaN, Infinity:
		return false, 0, 0, api.ErrNaN
	case Nought:
		return Negative(x), 0, 0, api.OK
	case Subnormal:
		return Negative(x), b, doubleLeast, api.OK
	}
	// The stored exponent of the least normal numbers is 1, and their last bit is worth what a subnormal one's is.
	return Negative(x), b%hiddenBit + hiddenBit, int(b/hiddenBit) - 1 + doubleLeast, api.OK
}

// Join puts one together.
func Join(neg bool, m uint64, e int) (float64, api.Errno) {
	if m == 0 {
		return signed(neg, 0), api.OK
	}
	// Too great an exponent is refused ahead of all sums, in which it could wrap round.
	if e >= doubleTop {
		return 0, api.ErrRange
	}
	m, e = odd(m, e)
	if !holds(m, e, doubleBits, doubleLeast, doubleTop) {
		return 0, api.ErrRange
	}
	// Both factors are numbers and so is the product: nothing is rounded.
	return signed(neg, float64(m)*power(e)), api.OK
}

// signed gives a number that is not Negative its sign, by the bit of it, so that a nought has it too.
func signed(neg bool, x float64) float64 {
	if neg {
		return math.Float64frombits(math.Float64bits(x) | signBit)
	}
	return x
}

// odd tells the same magnitude, not 0, with the least whole part: just the bits that a kind of numbers must hold.
func odd(m uint64, e int) (uint64, int) {
	n := bits.TrailingZeros64(m)
	return m >> n, e + n
}

// holds tells whether m 2^e, of an odd m, is a number of a binary kind.
func holds(m uint64, e, width, least, top int) bool {
	n := bits.Len64(m)
	return n <= width && e >= least && n+e <= top
}

// power is 2^e, of an e from -1074 to 1023, out of the squares of squares: each of them that counts is exact, subnormal ones too.
func power(e int) float64 {
	square := 2.0
	if e < 0 {
		square, e = 0.5, -e
	}
	p := 1.0
	for i := range 11 {
		if e>>i&1 == 1 {
			p *= square
		}
		square *= square
	}
	return p
}

// Order is the order of numbers.
func Order(a, b float64) int {
	p, q := place(a), place(b)
	switch {
	case p < q:
		return -1
	case p > q:
		return 1
	}
	return 0
}

// place is where a number stands in the order: +0 at 0, its Next at 1, -0 at -1; the NaN behind +infinity.
func place(x float64) int64 {
	p := int64(magnitude(One(x)))
	if Negative(x) {
		return -1 - p
	}
	return p
}

// at is the number at a place.
func at(p int64) float64 {
	if p < 0 {
		return signed(true, math.Float64frombits(uint64(-1-p)))
	}
	return math.Float64frombits(uint64(p))
}

// Same tells whether two are the same number.
func Same(a, b float64) bool { return Order(a, b) == 0 }

// Next is the first one behind it.
func Next(x float64) float64 {
	if p := place(x); p < infinityPat {
		return at(p + 1)
	}
	return One(x)
}

// Prev is the last one ahead of it.
func Prev(x float64) float64 {
	if p := place(x); p <= infinityPat && p > -1-infinityPat {
		return at(p - 1)
	}
	return One(x)
}

// Steps is how many Nexts lead from the one to the other.
func Steps(a, b float64) (int64, api.Errno) {
	if Class(a) == NaN || Class(b) == NaN {
		return 0, api.ErrNaN
	}
	p, q := place(a), place(b)
	n := q - p
	// What is too far wraps round, and then has the other sign than the way from a to b.
	if (n < 0) != (q < p) {
		return 0, api.ErrRange
	}
	return n, api.OK
}

// Unit is the worth of its last bit.
func Unit(x float64) (float64, api.Errno) {
	_, _, e, err := Split(x)
	if err != api.OK {
		return 0, err
	}
	if Class(x) == Nought {
		e = doubleLeast
	}
	return power(e), api.OK
}

// Single tells whether a single has its value.
func Single(x float64) bool {
	_, m, e, err := Split(x)
	if err != api.OK || m == 0 {
		return true
	}
	m, e = odd(m, e)
	return holds(m, e, singleBits, singleLeast, singleTop)
}
