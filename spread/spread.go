// Package spread has the words that the other packages' tests try.
package spread

// Words are words all over the 64 bits, the same ones in every run.
func Words(many int) []uint64 {
	list := make([]uint64, many)
	word := uint64(0x9e3779b97f4a7c15)
	for i := range list {
		word ^= word << 13
		word ^= word >> 7
		word ^= word << 17
		list[i] = word
	}
	return list
}
