package level

import (
	"math"
	"math/big"
	"testing"

	"raftsman/api"
	"raftsman/spread"
)

// p is written in digits, so that a wrong api.P would be told, too.
const p = 2305843009213693951

// leftOver: A times name, and B, divided by P, in numbers that have no end.
func leftOver(h api.Hash, name uint64) uint64 {
	n := new(big.Int).Mul(toBig(h.A), toBig(name))
	n.Add(n, toBig(h.B))
	return n.Mod(n, toBig(p)).Uint64()
}

func toBig(n uint64) *big.Int { return new(big.Int).SetUint64(n) }

// samples are the places where values wrap round, and some between.
func samples() []uint64 {
	list := []uint64{0, 1, 2, 3, 5, 1 << 24, 50331653, 1<<32 - 1, 1 << 32, 1 << 48, 1 << 60, p - 2, p - 1, p, p + 1, p + 2, 1 << 62, 2*p - 1, 2 * p, 2*p + 1, 1 << 63, 8 * p, math.MaxUint64}
	return append(list, spread.Words(12)...)
}

// bounds are those of all levels, halved one by one.
func bounds() []uint64 {
	var list []uint64
	for n := uint64(p); n > 0; n /= 2 {
		list = append(list, n)
	}
	return list
}

// wrongLevels are what has no bound; some of them are levels in their lowest 6, 8 or 32 bits.
func wrongLevels() []int {
	return []int{-1, -2, -60, -64, math.MinInt, math.MinInt32, 61, 62, 63, 64, 65, 128, 256, 1 << 32, 1<<32 + 5, math.MaxInt32, math.MaxInt}
}

func checkValue(t *testing.T, h api.Hash, name, want uint64) {
	t.Helper()
	if v := Value(h, name); v != want {
		t.Errorf("Value(%v, %d): %d, want %d", h, name, v, want)
	}
}

func checkBound(t *testing.T, level int, want uint64) {
	t.Helper()
	if b := Bound(level); b != want {
		t.Errorf("Bound(%d): %d, want %d", level, b, want)
	}
}

func checkDeep(t *testing.T, h api.Hash, name uint64, levels, want int) {
	t.Helper()
	if n := Deep(h, name, levels); n != want {
		t.Errorf("Deep(%v, %d, %d): %d, want %d", h, name, levels, n, want)
	}
}

func checkLevels(t *testing.T, n, want int) {
	t.Helper()
	if l := Levels(n); l != want {
		t.Errorf("Levels(%d): %d, want %d", n, l, want)
	}
}

// P4.1
func TestValueByHand(t *testing.T) {
	for _, c := range []struct {
		a, b, name, want uint64
	}{
		{0, 0, 0, 0},
		{0, 0, 7, 0},
		{0, 9, 7, 9},
		{3, 9, 0, 9},
		{1, 0, 7, 7},
		{3, 9, 7, 30},
		{9, 3, 7, 66},
		{2, 1 << 60, 3, 1152921504606846982},
		{1, 1, p - 1, 0},
		{1, 2, p - 1, 1},
		{p - 1, 0, 1, p - 1},
		{p - 1, 0, 2, p - 2},
		{p - 1, p - 1, p - 1, 0},
		{1 << 60, 0, 2, 1},
		{1 << 60, 5, 4, 7},
	} {
		checkValue(t, api.Hash{A: c.a, B: c.b}, c.name, c.want)
	}
}

// P4.1: what isn't below P counts as what it leaves over.
func TestValueOfNumbersThatAreNotBelowP(t *testing.T) {
	checkValue(t, api.Hash{A: p, B: 4}, 7, 4)
	checkValue(t, api.Hash{A: p + 3, B: 9}, 7, 30)
	checkValue(t, api.Hash{A: 3, B: p + 9}, 7, 30)
	checkValue(t, api.Hash{A: 3, B: 9}, p+7, 30)
	checkValue(t, api.Hash{A: 3, B: p}, p, 0)
	// The greatest number leaves over 7.
	checkValue(t, api.Hash{A: math.MaxUint64, B: math.MaxUint64}, math.MaxUint64, 56)
}

// P4.1
func TestValueAsNaturalsHaveIt(t *testing.T) {
	for _, a := range samples() {
		for _, b := range samples() {
			for _, name := range samples() {
				h := api.Hash{A: a, B: b}
				checkValue(t, h, name, leftOver(h, name))
			}
		}
	}
}

// P4.1
func TestBoundByHand(t *testing.T) {
	checkBound(t, 0, 2305843009213693951)
	checkBound(t, 1, 1152921504606846975)
	checkBound(t, 2, 576460752303423487)
	checkBound(t, 37, 16777215)
	checkBound(t, 58, 7)
	checkBound(t, 59, 3)
	checkBound(t, 60, 1)
}

// P4.1
func TestBoundIsHalvedFromLevelToLevel(t *testing.T) {
	list := bounds()
	if len(list) != 61 {
		t.Fatalf("%d bounds", len(list))
	}
	for level, want := range list {
		checkBound(t, level, want)
	}
}

// P4.1
func TestBoundOfWhatIsNoLevel(t *testing.T) {
	for _, level := range wrongLevels() {
		checkBound(t, level, 0)
	}
}

// P4.1: what is just below a level's bound goes down to it, and no deeper.
func TestDeepBelowTheBounds(t *testing.T) {
	for level, bound := range bounds() {
		h := api.Hash{B: bound - 1}
		for levels := level + 1; levels <= 62; levels++ {
			checkDeep(t, h, 5, levels, level+1)
		}
		checkDeep(t, h, 5, level, level)
	}
}

// P4.1: what is a level's bound, or just above, does not go down to it.
func TestDeepAtTheBounds(t *testing.T) {
	// P itself is no value: so the first level has none that is its bound.
	for level, bound := range bounds()[1:] {
		for levels := level + 1; levels <= 62; levels++ {
			checkDeep(t, api.Hash{B: bound}, 5, levels, level+1)
			checkDeep(t, api.Hash{B: bound + 1}, 5, levels, level+1)
		}
		checkDeep(t, api.Hash{B: bound}, 5, level, level)
	}
}

// P4.1: the name goes by its value, not by itself.
func TestDeepByHand(t *testing.T) {
	checkDeep(t, api.Hash{A: 2, B: 1 << 60}, 3, 9, 1)
	checkDeep(t, api.Hash{A: 1}, 0, 61, 61)
	checkDeep(t, api.Hash{A: 1}, 1, 61, 60)
	checkDeep(t, api.Hash{A: 1}, 2, 61, 60)
	checkDeep(t, api.Hash{A: 1}, 3, 61, 59)
	checkDeep(t, api.Hash{A: 1}, 6, 61, 59)
	checkDeep(t, api.Hash{A: 1}, 7, 61, 58)
	checkDeep(t, api.Hash{A: 1}, 1<<60-2, 61, 2)
	checkDeep(t, api.Hash{A: 1}, 1<<60-1, 61, 1)
	checkDeep(t, api.Hash{A: 1}, p-1, 61, 1)
	checkDeep(t, api.Hash{A: 1}, p, 61, 61)
	checkDeep(t, api.Hash{A: 1, B: 1}, p-1, 61, 61)
	checkDeep(t, api.Hash{A: 1, B: p}, 3, 61, 59)
	checkDeep(t, api.Hash{A: p - 1, B: 7}, 7, 22, 22)
	checkDeep(t, api.Hash{A: math.MaxUint64, B: math.MaxUint64}, math.MaxUint64, 61, 56)
}

// deep: down how many of the bounds a value goes, all of them asked.
func deep(value uint64, levels int) int {
	list := bounds()
	count := 0
	for level := range min(max(levels, 0), len(list)) {
		// Each bound is less than the one ahead: so those that the value is below come first.
		if value < list[level] {
			count++
		}
	}
	return count
}

// P4.1
func TestDeepOfAllKinds(t *testing.T) {
	for _, a := range samples() {
		for _, b := range samples() {
			h := api.Hash{A: a, B: b}
			for i, name := range spread.Words(9) {
				// Small names and hashes go deep, others don't.
				n := name >> (7 * i)
				for _, levels := range []int{-1, 0, 1, 2, 8, 22, 60, 61, 62} {
					checkDeep(t, h, n, levels, deep(leftOver(h, n), levels))
				}
			}
		}
	}
}

// P4.1: each number of levels cuts off what would go deeper.
func TestDeepIsNoMoreThanTheLevels(t *testing.T) {
	for levels := 1; levels <= 61; levels++ {
		checkDeep(t, api.Hash{}, 3, levels, levels)
		checkDeep(t, api.Hash{B: 3}, 3, levels, min(levels, 59))
	}
}

// P4.1
func TestDeepOfNoLevels(t *testing.T) {
	for _, levels := range []int{0, -1, -2, -61, math.MinInt32, math.MinInt} {
		for _, name := range samples() {
			checkDeep(t, api.Hash{}, name, levels, 0)
			checkDeep(t, api.Hash{A: 3, B: 9}, name, levels, 0)
		}
	}
}

// P4.1
func TestDeepOfMoreLevelsThanThereAre(t *testing.T) {
	for _, levels := range []int{62, 63, 64, 65, 128, 1 << 32, math.MaxInt32, math.MaxInt} {
		checkDeep(t, api.Hash{}, 3, levels, 61)
		checkDeep(t, api.Hash{B: 1}, 3, levels, 60)
		for _, name := range samples() {
			h := api.Hash{A: 1}
			checkDeep(t, h, name, levels, Deep(h, name, 61))
		}
	}
}

// P4.1: the 5 is the chapter's example.
func TestLevelsByHand(t *testing.T) {
	for n, want := range map[int]int{
		1: 2, 2: 4, 3: 6, 4: 6, 5: 8, 6: 8, 7: 8, 8: 8, 9: 10, 16: 10, 17: 12,
		1000: 22, 1023: 22, 1024: 22, 1025: 24,
		math.MaxInt32: 64, math.MaxInt32 + 1: 64, math.MaxInt32 + 2: 66,
		1 << 62: 126, 1<<62 + 1: 128, math.MaxInt: 128,
	} {
		checkLevels(t, n, want)
	}
}

// P4.1: numbers of one bit more are twice as many.
func TestLevelsOfAllBits(t *testing.T) {
	bits, numbers := 0, 1
	for n := 1; n <= 5000; n++ {
		for numbers < n {
			bits, numbers = bits+1, 2*numbers
		}
		checkLevels(t, n, 2*bits+2)
	}
	for bits := 1; bits < 63; bits++ {
		checkLevels(t, 1<<bits, 2*bits+2)
		checkLevels(t, 1<<bits+1, 2*bits+4)
	}
}

// P4.1
func TestLevelsOfNoVertices(t *testing.T) {
	for _, n := range []int{0, -1, -2, -5, -1024, math.MinInt32, math.MinInt + 1, math.MinInt} {
		checkLevels(t, n, 0)
	}
}

// P4.2
func TestMoreLevelsGoNoLessDeep(t *testing.T) {
	for _, b := range append(bounds(), samples()...) {
		for _, name := range samples() {
			h := api.Hash{A: 1, B: b}
			was := 0
			for levels := -1; levels <= 70; levels++ {
				n := Deep(h, name, levels)
				if n < was || n > max(levels, 0) {
					t.Errorf("Deep(%v, %d, %d): %d, and %d of a level less", h, name, levels, n, was)
				}
				was = n
			}
		}
	}
}

// P4.2
func TestOfOneLevelEachGoesOneDeep(t *testing.T) {
	for _, a := range samples() {
		for _, b := range samples() {
			for _, name := range samples() {
				checkDeep(t, api.Hash{A: a, B: b}, name, 1, 1)
			}
		}
	}
}

// from: the number below P of which a value comes, by what A is multiplied by to leave over 1.
func from(h api.Hash, value uint64) uint64 {
	n := new(big.Int).Sub(toBig(value), toBig(h.B))
	n.Mul(n, new(big.Int).ModInverse(toBig(h.A), toBig(p)))
	return n.Mod(n, toBig(p)).Uint64()
}

// P4.2: each value is that of a number, and each number that of its value: so of just one.
func TestEachValueIsThatOfOneNumber(t *testing.T) {
	for _, a := range samples() {
		if a%p == 0 {
			continue
		}
		for _, b := range samples() {
			h := api.Hash{A: a, B: b}
			for _, n := range samples() {
				n %= p
				checkValue(t, h, from(h, n), n)
				if m := from(h, Value(h, n)); m != n {
					t.Errorf("%v: the value of %d is that of %d, too", h, n, m)
				}
			}
		}
	}
}

// P4.2: numbers beside one another have unlike values, too.
func TestValuesOfManyNumbersAreUnlike(t *testing.T) {
	for _, h := range []api.Hash{{A: 1}, {A: 2, B: 1 << 60}, {A: 1 << 60, B: 3}, {A: p - 1, B: p - 1}, {A: spread.Words(1)[0], B: 5}} {
		names := map[uint64]uint64{}
		for n := range uint64(2000) {
			for _, name := range []uint64{n, p - 1 - n} {
				value := Value(h, name)
				if other, there := names[value]; there {
					t.Errorf("%v: %d and %d have the value %d", h, other, name, value)
				}
				names[value] = name
			}
		}
	}
}
