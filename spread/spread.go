// Package spread has what the other packages' tests try: words, lists of numbers, edges.
package spread

import (
	"math"
	"slices"
)

// Words are words all over the 64 bits, the same ones in every run.
func Words(many int) []uint64 {
	list := make([]uint64, many)
	word := uint64(0x9e3779b97f4a7c15)
	for i := range list {
		word ^= word << 13
		word ^= word >> 7
		word ^= word << 17
		list[i] = word
	}
	return list
}

// Lists are all lists of n numbers from first to last.
func Lists(n, first, last int) [][]int {
	list := [][]int{nil}
	for range n {
		var longer [][]int
		for _, l := range list {
			for x := first; x <= last; x++ {
				longer = append(longer, slices.Concat(l, []int{x}))
			}
		}
		list = longer
	}
	return list
}

// Spots are numbers of which some are vertices of n, and some are none.
func Spots(n int) []int {
	return []int{math.MinInt, math.MinInt32, -n - 1, -n, -2, -1, 0, 1, n / 2, n - 2, n - 1, n, n + 1, 2 * n, 1 << 32, 1<<32 + 1, math.MaxInt}
}
