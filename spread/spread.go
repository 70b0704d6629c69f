// Package spread has what the other packages' tests try: words, numbers at the edges, lists of numbers, edges.
package spread

import (
	"math"
	"slices"
)

// Words are words all over the 64 bits, the same ones in every run.
func Words(many int) []uint64 {
	list := make([]uint64, many)
	word := uint64(0x9e3779b97f4a7c15)
	for i := range list {
		word ^= word << 13
		word ^= word >> 7
		word ^= word << 17
		list[i] = word
	}
	return list
}

// Lists are all lists of n numbers from first to last.
func Lists(n, first, last int) [][]int {
	list := [][]int{nil}
	for range n {
		var longer [][]int
		for _, l := range list {
			for x := first; x <= last; x++ {
				longer = append(longer, slices.Concat(l, []int{x}))
			}
		}
		list = longer
	}
	return list
}

// Spots are numbers of which some are vertices of n, and some are none.
func Spots(n int) []int {
	return []int{math.MinInt, math.MinInt32, -n - 1, -n, -2, -1, 0, 1, n / 2, n - 2, n - 1, n, n + 1, 2 * n, 1 << 32, 1<<32 + 1, math.MaxInt}
}

// Beside are those of Spots that are none of n vertices.
func Beside(n int) []int {
	return slices.DeleteFunc(Spots(n), func(v int) bool { return 0 <= v && v < n })
}

// maxN is written in digits, so that a wrong api.MaxN would be told, too.
const maxN = 1024

// WrongSizes are no numbers of vertices.
func WrongSizes() []int {
	return []int{-1, -2, -maxN, math.MinInt32, math.MinInt, maxN + 1, maxN + 2, 2 * maxN, 1 << 31, 1 << 32, 1<<32 + 1, math.MaxInt}
}

// Ends are numbers at the edges of what 32, 63 and 64 bits hold.
func Ends() []uint64 {
	return []uint64{0, 1, 2, math.MaxInt32, 1 << 31, math.MaxUint32, 1 << 32, 1<<32 + 1, math.MaxInt64 - 1, math.MaxInt64, 1 << 63, 1<<63 + 1, math.MaxUint64 - 1, math.MaxUint64}
}
