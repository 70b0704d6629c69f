// Package mod is layer 1: numbers modulo P, a prime (see shared/doc/01-mod.md).
package mod

import (
	"math/bits"

	"raftsman/api"
)

// Of: what n leaves over, divided by P.
func Of(n uint64) uint64 { return n % api.P }

// Add: what the sum leaves over.
func Add(a, b uint64) uint64 {
	// Both are reduced first: two numbers below 2^61 can't wrap round.
	return Of(Of(a) + Of(b))
}

// Sub: what the difference leaves over.
func Sub(a, b uint64) uint64 {
	// P ahead keeps the difference from falling below 0.
	return Of(Of(a) + api.P - Of(b))
}

// Mul: what the product leaves over.
func Mul(a, b uint64) uint64 {
	high, low := bits.Mul64(Of(a), Of(b))
	// 2^61 leaves over 1: so the bits from 61 on are added to those below.
	return Add(high<<3|low>>61, low&api.P)
}

// Pow: what a, multiplied n times, leaves over.
func Pow(a, n uint64) uint64 {
	power, square := uint64(1), Of(a)
	for ; n > 0; n >>= 1 {
		if n&1 == 1 {
			power = Mul(power, square)
		}
		square = Mul(square, square)
	}
	return power
}

// Inv: the number that a is multiplied by to leave over 1; 0, if a leaves over 0.
func Inv(a uint64) uint64 {
	// By Fermat a to the power of P - 1 leaves over 1; of 0 each power but that of 0 is 0.
	return Pow(a, api.P-2)
}
