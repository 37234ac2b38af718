package sums

import (
	"math/big"
	"math/bits"

	"quadrille/api"
	"quadrille/dec"
	"quadrille/parts"
	"quadrille/round"
)

// An exact value is m 2^low; low is 0, or the least exponent that was ever needed, so that the usual sums have few bits.
type exact struct {
	m   big.Int
	low int
}

// far is the exponent of a power of two that is over, whatever of up to 2^32 it is divided by; all that is below that power has a decimal.
const far = 1 << 12

// whole tells the m and the e for which a finite number's value is m 2^e.
func whole(x float64) (*big.Int, int) {
	neg, size, e, _ := parts.Split(x)
	m := new(big.Int).SetUint64(size)
	if neg {
		m.Neg(m)
	}
	return m, e
}

// add lays m 2^e in.
func (v *exact) add(m *big.Int, e int) {
	if e < v.low {
		v.m.Lsh(&v.m, uint(v.low-e))
		v.low = e
	}
	// m may be another value's own: what is shifted is new.
	v.m.Add(&v.m, new(big.Int).Lsh(m, uint(e-v.low)))
}

// shared is the nearest of the value divided by n, of an n of 1 to 2^32.
func (v *exact) shared(n int64) (float64, api.Errno) {
	if v.m.BitLen()+v.low > far {
		return 0, api.ErrOver
	}
	x, flags, err := round.Ratio(v.decimal(), dec.Int(n), api.Even)
	if flags.Over {
		return 0, api.ErrOver
	}
	return x, err
}

// decimal is the value as one, of a value that is not far beyond all numbers.
func (v *exact) decimal() api.Dec {
	// Halves are fives of a tenth: 2^low is 5^-low times 10^low. Products of numbers have bits down to 2^-2148, so there are some 3400 digits at most.
	m := new(big.Int).Mul(&v.m, fives(-v.low))
	d, _ := dec.Made(m.Sign() < 0, m.Abs(m).String(), v.low)
	return d
}

// fives is 5^n, out of those powers whose exponents are powers of two.
func fives(n int) *big.Int {
	p, square := big.NewInt(1), big.NewInt(5)
	for i := range bits.Len(uint(n)) {
		if n>>i&1 == 1 {
			p.Mul(p, square)
		}
		square.Mul(square, square)
	}
	return p
}
