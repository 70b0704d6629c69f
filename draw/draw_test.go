package draw

import (
	"math"
	"slices"
	"testing"

	"raftsman/api"
	"raftsman/spread"
)

// p is written in digits, so that a wrong api.P would be told, too.
const p = 2305843009213693951

// most is how many hashes there may be, in digits likewise.
const most = 128

// count are the numbers from first on.
func count(first, many int) []uint64 {
	list := make([]uint64, many)
	for i := range list {
		list[i] = uint64(first + i)
	}
	return list
}

// passed are all the words of which no number comes.
func passed() []uint64 {
	var list []uint64
	for high := uint64(0); high < 8; high++ {
		list = append(list, high<<61|p)
	}
	return list
}

// wrongPlaces are what At can't be, of so many words.
func wrongPlaces(many int) []int {
	return []int{-1, -2, math.MinInt, many + 1, many + 2, math.MaxInt}
}

func same(v, w Words) bool { return v.At == w.At && slices.Equal(v.List, w.List) }

func checkBelow(t *testing.T, w Words, n uint64, at int, err api.Errno) {
	t.Helper()
	got, v, e := Below(w)
	if got != n || !same(v, Words{w.List, at}) || e != err {
		t.Errorf("Below(%v): %d, %v, %d, want %d, At %d, %d", w, got, v, e, n, at, err)
	}
}

func checkHashes(t *testing.T, w Words, n int, want []api.Hash, at int, err api.Errno) {
	t.Helper()
	got, v, e := Hashes(w, n)
	if !slices.Equal(got, want) || !same(v, Words{w.List, at}) || e != err {
		t.Errorf("Hashes(%v, %d): %v, %v, %d, want %v, At %d, %d", w, n, got, v, e, want, at, err)
	}
}

// P2.1
func TestLeftTellsHowManyAreLeft(t *testing.T) {
	for many := range 6 {
		list := count(1, many)
		for at := 0; at <= many; at++ {
			if n := Left(Words{list, at}); n != many-at {
				t.Errorf("Left of %d at %d: %d", many, at, n)
			}
		}
	}
}

// P2.1: words of which no number comes are left like others.
func TestLeftCountsWordsThatWillBePassedOver(t *testing.T) {
	if n := Left(Words{passed(), 3}); n != 5 {
		t.Errorf("Left: %d", n)
	}
}

// P2.1: also where there is memory behind the list.
func TestLeftOfAPlaceThatIsNoneIsNothing(t *testing.T) {
	for many := range 4 {
		list := count(1, 9)[:many]
		for _, at := range wrongPlaces(many) {
			if n := Left(Words{list, at}); n != 0 {
				t.Errorf("Left of %d at %d: %d", many, at, n)
			}
		}
	}
}

// P2.1
func TestBelowTakesOneWord(t *testing.T) {
	w := Words{List: []uint64{0, 1, p - 1, 1<<60 + 12345}}
	checkBelow(t, w, 0, 1, api.OK)
	checkBelow(t, Words{w.List, 1}, 1, 2, api.OK)
	checkBelow(t, Words{w.List, 2}, 2305843009213693950, 3, api.OK)
	checkBelow(t, Words{w.List, 3}, 1<<60+12345, 4, api.OK)
}

// P2.1
func TestBelowLeavesOutTheThreeHighestBits(t *testing.T) {
	for high := uint64(0); high < 8; high++ {
		for _, n := range []uint64{0, 1, 1 << 60, p - 1} {
			checkBelow(t, Words{List: []uint64{high<<61 | n}}, n, 1, api.OK)
		}
	}
}

// P2.1: the chapter's example, and each word that is none.
func TestBelowPassesOverWhatIsNotBelowP(t *testing.T) {
	checkBelow(t, Words{List: []uint64{1<<61 - 1, 5}}, 5, 2, api.OK)
	checkBelow(t, Words{List: []uint64{math.MaxUint64, 6, 7}}, 6, 2, api.OK)
	checkBelow(t, Words{List: append(passed(), 9, 10)}, 9, 9, api.OK)
	checkBelow(t, Words{List: append(passed(), 9, 10), At: 4}, 9, 9, api.OK)
	for _, word := range passed() {
		checkBelow(t, Words{List: []uint64{3, word, 4, 5}, At: 1}, 4, 3, api.OK)
	}
}

// P2.1: no word is taken of those behind the one of which the number came.
func TestBelowStopsBehindItsWord(t *testing.T) {
	checkBelow(t, Words{List: append([]uint64{8}, passed()...)}, 8, 1, api.OK)
}

// P2.1
func TestBelowIsDryWhereWordsEnd(t *testing.T) {
	checkBelow(t, Words{}, 0, 0, api.ErrDry)
	checkBelow(t, Words{List: []uint64{}}, 0, 0, api.ErrDry)
	checkBelow(t, Words{List: count(1, 3), At: 3}, 0, 3, api.ErrDry)
	checkBelow(t, Words{List: count(1, 9)[:3], At: 3}, 0, 3, api.ErrDry)
	checkBelow(t, Words{List: passed()}, 0, 0, api.ErrDry)
	checkBelow(t, Words{List: append(count(1, 3), p, math.MaxUint64), At: 3}, 0, 3, api.ErrDry)
}

// P2.1
func TestBelowOfAPlaceThatIsNone(t *testing.T) {
	for many := range 4 {
		for _, at := range wrongPlaces(many) {
			checkBelow(t, Words{count(1, 9)[:many], at}, 0, at, api.ErrArg)
		}
	}
}

// P2.2
func TestHashesAreAnAAndThenAB(t *testing.T) {
	w := Words{List: count(1, 7)}
	checkHashes(t, w, 1, []api.Hash{{A: 1, B: 2}}, 2, api.OK)
	checkHashes(t, w, 3, []api.Hash{{A: 1, B: 2}, {A: 3, B: 4}, {A: 5, B: 6}}, 6, api.OK)
	checkHashes(t, Words{w.List, 3}, 2, []api.Hash{{A: 4, B: 5}, {A: 6, B: 7}}, 7, api.OK)
	checkHashes(t, Words{List: []uint64{0, 0}}, 1, []api.Hash{{}}, 2, api.OK)
}

// P2.2: an A and a B are drawn alike, whatever is passed over ahead of either.
func TestHashesPassOverWhatIsNotBelowP(t *testing.T) {
	list := []uint64{p, 1, math.MaxUint64, p, 1<<61 | 2, p - 1, 5<<61 | p, 1 << 61, p}
	checkHashes(t, Words{List: list}, 1, []api.Hash{{A: 1, B: 2}}, 5, api.OK)
	checkHashes(t, Words{List: list}, 2, []api.Hash{{A: 1, B: 2}, {A: p - 1, B: 0}}, 8, api.OK)
	checkHashes(t, Words{list, 5}, 1, []api.Hash{{A: p - 1, B: 0}}, 8, api.OK)
}

// P2.2: none are asked of words that are there, or not.
func TestNoHashes(t *testing.T) {
	checkHashes(t, Words{}, 0, nil, 0, api.OK)
	checkHashes(t, Words{List: count(1, 4)}, 0, nil, 0, api.OK)
	checkHashes(t, Words{List: count(1, 4), At: 4}, 0, nil, 4, api.OK)
	checkHashes(t, Words{List: passed()}, 0, nil, 0, api.OK)
}

// P2.2
func TestAsManyHashesAsThereMayBe(t *testing.T) {
	var want []api.Hash
	for i := range uint64(most) {
		want = append(want, api.Hash{A: 2*i + 1, B: 2*i + 2})
	}
	checkHashes(t, Words{List: count(1, 2*most)}, most, want, 2*most, api.OK)
	checkHashes(t, Words{List: count(1, 2*most+3)}, most, want, 2*most, api.OK)
	checkHashes(t, Words{List: count(1, 2*most-1)}, most, nil, 0, api.ErrDry)
}

// P2.2
func TestHashesOfANumberThatIsNone(t *testing.T) {
	for _, n := range []int{-1, math.MinInt, most + 1, most + 2, math.MaxInt} {
		checkHashes(t, Words{List: count(1, 300)}, n, nil, 0, api.ErrArg)
		checkHashes(t, Words{List: count(1, 300), At: 7}, n, nil, 7, api.ErrArg)
	}
}

// P2.2: where words end, too, what is asked wrongly is told first.
func TestHashesTellErrArgAheadOfErrDry(t *testing.T) {
	checkHashes(t, Words{}, -1, nil, 0, api.ErrArg)
	checkHashes(t, Words{}, most+1, nil, 0, api.ErrArg)
	checkHashes(t, Words{At: 1}, 1, nil, 1, api.ErrArg)
}

// P2.2: no hashes either.
func TestHashesOfAPlaceThatIsNone(t *testing.T) {
	for many := range 4 {
		for _, at := range wrongPlaces(many) {
			for _, n := range []int{-1, 0, 1, most, most + 1} {
				checkHashes(t, Words{count(1, 9)[:many], at}, n, nil, at, api.ErrArg)
			}
		}
	}
}

// P2.2: at an A or at a B: nothing is told of those that were drawn, and no word is taken.
func TestHashesAreDryWhereWordsEnd(t *testing.T) {
	checkHashes(t, Words{}, 1, nil, 0, api.ErrDry)
	checkHashes(t, Words{List: count(1, 9)[:4]}, 3, nil, 0, api.ErrDry)
	checkHashes(t, Words{List: count(1, 5)}, 3, nil, 0, api.ErrDry)
	checkHashes(t, Words{List: count(1, 5), At: 2}, 2, nil, 2, api.ErrDry)
	checkHashes(t, Words{List: []uint64{1, p, 2, 3, p, math.MaxUint64}}, 2, nil, 0, api.ErrDry)
	checkHashes(t, Words{List: append(count(1, 2), passed()...), At: 1}, 1, nil, 1, api.ErrDry)
}

// P2.1, P2.2: hashes are numbers that Below draws, one by one.
func TestHashesAreDrawnAsBelowDraws(t *testing.T) {
	w := Words{List: mixed(400), At: 5}
	hashes, behind, err := Hashes(w, 60)
	if err != api.OK || len(hashes) != 60 {
		t.Fatalf("Hashes: %d of them, %d", len(hashes), err)
	}
	rest := w
	for i, h := range hashes {
		var a, b uint64
		a, rest, _ = Below(rest)
		b, rest, _ = Below(rest)
		if h != (api.Hash{A: a, B: b}) {
			t.Errorf("hash %d: %v, want %d and %d", i, h, a, b)
		}
	}
	if !same(behind, rest) {
		t.Errorf("behind them At is %d, want %d", behind.At, rest.At)
	}
}

// P2.2: in two parts, the second one of the words behind the first, they are the same.
func TestHashesInTwoParts(t *testing.T) {
	w := Words{List: mixed(200)}
	whole, behind, _ := Hashes(w, 20)
	for n := 0; n <= 20; n++ {
		first, rest, _ := Hashes(w, n)
		second, end, err := Hashes(rest, 20-n)
		if err != api.OK || !slices.Equal(slices.Concat(first, second), whole) || !same(end, behind) {
			t.Errorf("in parts at %d: %v and %v, At %d, %d", n, first, second, end.At, err)
		}
	}
}

// mixed are words all over the 64 bits, the same ones in every run, some of which are passed over.
func mixed(many int) []uint64 {
	list := spread.Words(many)
	for i, word := range list {
		if word%5 == 0 {
			list[i] |= p
		}
	}
	return list
}

// R1: what is handed in stays as it was, and hashes that were told, too.
func TestWhatIsHandedInStays(t *testing.T) {
	w := Words{List: mixed(100), At: 3}
	Left(w)
	Below(w)
	first, _, _ := Hashes(w, 10)
	kept := slices.Clone(first)
	again, _, _ := Hashes(w, 10)
	if w.At != 3 || !slices.Equal(w.List, mixed(100)) {
		t.Errorf("words were changed: %v", w)
	}
	again[0].A++
	if !slices.Equal(first, kept) {
		t.Errorf("hashes were changed: %v", first)
	}
}

// drawn: does this number come of this word alone?
func drawn(word, n uint64) bool {
	got, _, err := Below(Words{List: []uint64{word}})
	return err == api.OK && got == n
}

// P2.3: asked of the words whose lowest 61 bits are the number's, P's, or differ by one bit or by 1.
func TestEachNumberComesOfEightWords(t *testing.T) {
	numbers := []uint64{0, 1, 2, 3, 7, 8, 1 << 32, 1 << 60, p / 2, p - 8, p - 7, p - 2, p - 1}
	for _, word := range mixed(40) {
		if n := word & p; n != p {
			numbers = append(numbers, n)
		}
	}
	for _, n := range numbers {
		lows := map[uint64]int{n: 0, p: 0, (n + 1) & p: 0, (n - 1) & p: 0}
		for bit := range 61 {
			lows[n^1<<bit] = 0
		}
		many := 0
		for low := range lows {
			for high := uint64(0); high < 8; high++ {
				if drawn(high<<61|low, n) {
					many++
				}
			}
		}
		if many != 8 {
			t.Errorf("%d comes of %d words", n, many)
		}
	}
}

// P2.3: of each word one number comes, its lowest 61 bits; of eight words none.
func TestOfWhichWordsNoNumberComes(t *testing.T) {
	for _, word := range passed() {
		checkBelow(t, Words{List: []uint64{word}}, 0, 0, api.ErrDry)
		for bit := range 61 {
			low := uint64(p) ^ 1<<bit
			checkBelow(t, Words{List: []uint64{word ^ 1<<bit}}, low, 1, api.OK)
		}
	}
}
