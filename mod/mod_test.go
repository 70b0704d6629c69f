package mod

import (
	"math"
	"math/big"
	"testing"

	"raftsman/api"
	"raftsman/spread"
)

// bigP is written in digits, so that a wrong api.P would be told, too.
func bigP() *big.Int {
	p, _ := new(big.Int).SetString("2305843009213693951", 10)
	return p
}

func toBig(n uint64) *big.Int { return new(big.Int).SetUint64(n) }

// leftOver: what n leaves over, from 0 to P - 1, also of n below 0.
func leftOver(n *big.Int) uint64 { return new(big.Int).Mod(n, bigP()).Uint64() }

// edges are the places where reducing, carrying or folding may go wrong.
func edges() []uint64 {
	list := []uint64{0, 1, 2, 3, 1 << 31, 1<<32 - 1, 1 << 32, 1 << 60, math.MaxUint64}
	for times := uint64(1); times <= 8; times++ {
		list = append(list, times*api.P-1, times*api.P, times*api.P+1)
	}
	for bit := 61; bit < 64; bit++ {
		list = append(list, 1<<bit-1, 1<<bit, 1<<bit+1)
	}
	return list
}

func samples() []uint64 { return append(edges(), spread.Words(60)...) }

func check(t *testing.T, what string, got, want uint64, args ...uint64) {
	t.Helper()
	if got != want {
		t.Errorf("%s%v: %d, want %d", what, args, got, want)
	}
}

// P1.1
func TestOfTellsWhatIsLeftOver(t *testing.T) {
	for n, want := range map[uint64]uint64{
		0:              0,
		1:              1,
		12345:          12345,
		api.P - 1:      2305843009213693950,
		api.P:          0,
		api.P + 1:      1,
		2*api.P - 1:    2305843009213693950,
		2 * api.P:      0,
		1 << 63:        4,
		8 * api.P:      0,
		math.MaxUint64: 7,
	} {
		check(t, "Of", Of(n), want, n)
	}
	for _, n := range samples() {
		check(t, "Of", Of(n), leftOver(toBig(n)), n)
	}
}

// P1.1
func TestAddSubMulByHand(t *testing.T) {
	check(t, "Add", Add(2, 3), 5, 2, 3)
	check(t, "Add", Add(api.P-1, 1), 0, api.P-1, 1)
	check(t, "Add", Add(api.P-1, 2), 1, api.P-1, 2)
	check(t, "Add", Add(math.MaxUint64, math.MaxUint64), 14, math.MaxUint64, math.MaxUint64)
	check(t, "Sub", Sub(5, 3), 2, 5, 3)
	check(t, "Sub", Sub(3, 5), 2305843009213693949, 3, 5)
	check(t, "Sub", Sub(0, 1), 2305843009213693950, 0, 1)
	check(t, "Sub", Sub(0, api.P), 0, 0, api.P)
	check(t, "Sub", Sub(0, math.MaxUint64), 2305843009213693944, 0, math.MaxUint64)
	check(t, "Sub", Sub(api.P, api.P+1), 2305843009213693950, api.P, api.P+1)
	check(t, "Mul", Mul(6, 7), 42, 6, 7)
	check(t, "Mul", Mul(1<<60, 2), 1, 1<<60, 2)
	check(t, "Mul", Mul(api.P-1, api.P-1), 1, api.P-1, api.P-1)
	check(t, "Mul", Mul(api.P, api.P-1), 0, api.P, api.P-1)
	check(t, "Mul", Mul(api.P+1, api.P+2), 2, api.P+1, api.P+2)
	check(t, "Mul", Mul(math.MaxUint64, math.MaxUint64), 49, math.MaxUint64, math.MaxUint64)
}

// P1.1
func TestAddSubMulAsNaturalsHaveIt(t *testing.T) {
	for _, a := range samples() {
		for _, b := range samples() {
			x, y := toBig(a), toBig(b)
			check(t, "Add", Add(a, b), leftOver(new(big.Int).Add(x, y)), a, b)
			check(t, "Sub", Sub(a, b), leftOver(new(big.Int).Sub(x, y)), a, b)
			check(t, "Mul", Mul(a, b), leftOver(new(big.Int).Mul(x, y)), a, b)
		}
	}
}

// P1.2
func TestPowByHand(t *testing.T) {
	check(t, "Pow", Pow(3, 5), 243, 3, 5)
	check(t, "Pow", Pow(2, 61), 1, 2, 61)
	check(t, "Pow", Pow(2, 60), 1<<60, 2, 60)
	check(t, "Pow", Pow(api.P+3, 2), 9, api.P+3, 2)
	check(t, "Pow", Pow(0, 1), 0, 0, 1)
	check(t, "Pow", Pow(0, math.MaxUint64), 0, 0, math.MaxUint64)
	check(t, "Pow", Pow(api.P, 5), 0, api.P, 5)
	check(t, "Pow", Pow(api.P-1, math.MaxUint64), 2305843009213693950, api.P-1, math.MaxUint64)
}

// P1.2
func TestPowOfNoTimesIsOne(t *testing.T) {
	for _, a := range samples() {
		check(t, "Pow", Pow(a, 0), 1, a, 0)
	}
}

// P1.2: a count of P is not one of 0, nor one of P + 1 one of 1.
func TestPowTakesItsCountAsItIs(t *testing.T) {
	check(t, "Pow", Pow(2, api.P), 2, 2, api.P)
	check(t, "Pow", Pow(2, api.P+1), 4, 2, api.P+1)
	check(t, "Pow", Pow(2, api.P-1), 1, 2, api.P-1)
	check(t, "Pow", Pow(0, api.P), 0, 0, api.P)
	check(t, "Pow", Pow(api.P, api.P), 0, api.P, api.P)
	check(t, "Pow", Pow(api.P, api.P-1), 0, api.P, api.P-1)
	// 2 to the power of 61 leaves over 1, and 2^64 - 1 leaves over 15, divided by 61.
	check(t, "Pow", Pow(2, math.MaxUint64), 1<<15, 2, math.MaxUint64)
}

// P1.2
func TestPowMultipliesOneByOne(t *testing.T) {
	for _, a := range samples() {
		want := uint64(1)
		for n := uint64(0); n < 70; n++ {
			check(t, "Pow", Pow(a, n), want, a, n)
			want = leftOver(new(big.Int).Mul(toBig(want), toBig(a)))
		}
	}
}

// P1.2
func TestPowOfGreatCounts(t *testing.T) {
	for _, a := range samples() {
		for _, n := range samples() {
			want := new(big.Int).Exp(leftOverBig(a), toBig(n), bigP()).Uint64()
			check(t, "Pow", Pow(a, n), want, a, n)
		}
	}
}

func leftOverBig(a uint64) *big.Int { return toBig(leftOver(toBig(a))) }

// P1.2
func TestInvLeavesOverOne(t *testing.T) {
	check(t, "Inv", Inv(1), 1, 1)
	check(t, "Inv", Inv(2), 1<<60, 2)
	check(t, "Inv", Inv(api.P-1), 2305843009213693950, api.P-1)
	check(t, "Inv", Inv(api.P+1), 1, api.P+1)
	check(t, "Inv", Inv(api.P+2), 1<<60, api.P+2)
	for _, a := range samples() {
		if leftOver(toBig(a)) == 0 {
			continue
		}
		check(t, "Inv", Inv(a), new(big.Int).ModInverse(leftOverBig(a), bigP()).Uint64(), a)
		check(t, "a by Inv", Mul(a, Inv(a)), 1, a)
	}
}

// P1.2
func TestInvOfWhatLeavesOverNothingIsNothing(t *testing.T) {
	for times := uint64(0); times <= 8; times++ {
		check(t, "Inv", Inv(times*api.P), 0, times*api.P)
	}
}

// P1.3: what holds of each number, and of each two.
func TestLawsOfAField(t *testing.T) {
	for _, a := range samples() {
		check(t, "a and 0", Add(a, 0), Of(a), a)
		check(t, "a by 1", Mul(a, 1), Of(a), a)
		check(t, "a by 0", Mul(a, 0), 0, a)
		check(t, "a less a", Sub(a, a), 0, a)
		check(t, "a and what is opposite", Add(a, Sub(0, a)), 0, a)
		check(t, "Inv of Inv", Inv(Inv(a)), Of(a), a)
		for _, b := range samples() {
			check(t, "a and b, b and a", Add(a, b), Add(b, a), a, b)
			check(t, "a by b, b by a", Mul(a, b), Mul(b, a), a, b)
			check(t, "a less b, and b", Add(Sub(a, b), b), Of(a), a, b)
			check(t, "Inv of a by b", Inv(Mul(a, b)), Mul(Inv(a), Inv(b)), a, b)
		}
	}
}

// P1.3: what holds of each three.
func TestLawsOfThreeNumbers(t *testing.T) {
	few := append(edges(), spread.Words(10)...)
	for _, a := range few {
		for _, b := range few {
			for _, c := range few {
				check(t, "sums in any order", Add(Add(a, b), c), Add(a, Add(b, c)), a, b, c)
				check(t, "products in any order", Mul(Mul(a, b), c), Mul(a, Mul(b, c)), a, b, c)
				check(t, "products of sums", Mul(a, Add(b, c)), Add(Mul(a, b), Mul(a, c)), a, b, c)
			}
		}
	}
}

// P1.3: counts of powers are added and multiplied.
func TestLawsOfPowers(t *testing.T) {
	counts := []uint64{0, 1, 2, 61, 1 << 20, 1<<32 - 1}
	for _, a := range samples() {
		for _, n := range counts {
			for _, m := range counts {
				check(t, "powers multiplied", Mul(Pow(a, n), Pow(a, m)), Pow(a, n+m), a, n, m)
				check(t, "a power's power", Pow(Pow(a, n), m), Pow(a, n*m), a, n, m)
			}
		}
	}
}

// P1.3: every answer is a number: from 0 to P - 1.
func TestAnswersAreNumbers(t *testing.T) {
	for _, a := range samples() {
		for _, b := range samples() {
			for what, n := range map[string]uint64{"Of": Of(a), "Add": Add(a, b), "Sub": Sub(a, b), "Mul": Mul(a, b), "Pow": Pow(a, b), "Inv": Inv(a)} {
				if n > 2305843009213693950 {
					t.Errorf("%s(%d, %d): %d is none", what, a, b, n)
				}
			}
		}
	}
}
