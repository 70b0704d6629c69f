package seq

import (
	"math"
	"slices"
	"testing"

	"raftsman/spread"
)

// numbers are many numbers, rising by 1.
func numbers(first, many int) []int {
	list := make([]int, many)
	for i := range list {
		list[i] = first + i
	}
	return list
}

// least are how many things a tree of that height has at least, as the chapter counts them.
func least(height int) int {
	if height < 2 {
		return height
	}
	lower, higher := 0, 1
	for range height - 1 {
		lower, higher = higher, lower+higher+1
	}
	return higher
}

// measure goes through all of a tree, and tells its height and how many things are in it; whether it stands well is asked of each tree in it.
func measure[T any](t *testing.T, s *Seq[T]) (height, many int) {
	t.Helper()
	if s == nil {
		return 0, 0
	}
	h1, n1 := measure(t, s.ahead)
	h2, n2 := measure(t, s.behind)
	if h1 > h2+1 || h2 > h1+1 {
		t.Errorf("a tree of %d things has heights of %d and %d", n1+n2+1, h1, h2)
	}
	return max(h1, h2) + 1, n1 + n2 + 1
}

// check asks all that there is to ask of s, but At, of sequences of want's things.
func check[T comparable](t *testing.T, s *Seq[T], want []T) {
	t.Helper()
	if l := List(s); !slices.Equal(l, want) {
		t.Errorf("List: %v, want %v", l, want)
	}
	height, many := measure(t, s)
	if many != len(want) {
		t.Errorf("%d things, want %d", many, len(want))
	}
	if n := Len(s); n != len(want) {
		t.Errorf("Len: %d, want %d", n, len(want))
	}
	h := Height(s)
	if h != height {
		t.Errorf("Height: %d, want %d", h, height)
	}
	if len(want) < least(h) {
		t.Errorf("%d things are %d high, want at least %d", len(want), h, least(h))
	}
}

func checkAt[T comparable](t *testing.T, s *Seq[T], i int, want T, there bool) {
	t.Helper()
	if x, ok := At(s, i); x != want || ok != there {
		t.Errorf("At %d of %d things: %v, %v, want %v, %v", i, Len(s), x, ok, want, there)
	}
}

// checkPlaces asks At of each place, and of places where there is none.
func checkPlaces[T comparable](t *testing.T, s *Seq[T], want []T) {
	t.Helper()
	for i, x := range want {
		checkAt(t, s, i, x, true)
	}
	n := len(want)
	var none T
	for _, i := range []int{-1, -2, -n, -n - 1, n, n + 1, 2*n + 1, 1 << 32, -1 << 32, math.MinInt, math.MinInt + 1, math.MaxInt - 1, math.MaxInt} {
		checkAt(t, s, i, none, false)
	}
}

// checkSplit asks for the first ones of the things of s, and the others, and that s stays as it was.
func checkSplit[T comparable](t *testing.T, s *Seq[T], at int, want []T) {
	t.Helper()
	middle := max(0, min(at, len(want)))
	first, others := Split(s, at)
	check(t, first, want[:middle])
	check(t, others, want[middle:])
	check(t, s, want)
	check(t, Join(first, others), want)
}

func checkJoin[T comparable](t *testing.T, a, b *Seq[T], l, m []T) {
	t.Helper()
	check(t, Join(a, b), slices.Concat(l, m))
	check(t, a, l)
	check(t, b, m)
}

// behindOneAnother is a sequence of l that was joined thing by thing, each behind what was there.
func behindOneAnother[T any](l []T) *Seq[T] {
	var s *Seq[T]
	for _, x := range l {
		s = Join(s, Of(x))
	}
	return s
}

// aheadOfOneAnother is a sequence of l that was joined from its end on.
func aheadOfOneAnother[T any](l []T) *Seq[T] {
	var s *Seq[T]
	for _, x := range slices.Backward(l) {
		s = Join(Of(x), s)
	}
	return s
}

// outOfMore is a sequence of l that was split out of more things.
func outOfMore[T any](l []T) *Seq[T] {
	_, s := Split(Of(slices.Concat(l, l, l)...), len(l))
	s, _ = Split(s, len(l))
	return s
}

// sparse is a sequence of l that has as few things as a tree of its height may have, or what is left over is joined behind it.
func sparse[T any](l []T) *Seq[T] {
	height := 0
	for least(height+1) <= len(l) {
		height++
	}
	n := least(height)
	return Join(leaning(l[:n], height), Of(l[n:]...))
}

// leaning is a tree of that height that is higher ahead, wherever it may be.
func leaning[T any](l []T, height int) *Seq[T] {
	if height == 0 {
		return nil
	}
	n := least(height - 1)
	return node(leaning(l[:n], height-1), l[n], leaning(l[n+1:], max(height-2, 0)))
}

// leaningBehind is a tree of that height that is higher behind, wherever it may be.
func leaningBehind[T any](l []T, height int) *Seq[T] {
	if height == 0 {
		return nil
	}
	n := least(max(height-2, 0))
	return node(leaningBehind(l[:n], max(height-2, 0)), l[n], leaningBehind(l[n+1:], height-1))
}

// ways are sequences of the things of l, that came of unlike calls.
func ways[T any](l []T) []*Seq[T] {
	return []*Seq[T]{Of(l...), behindOneAnother(l), aheadOfOneAnother(l), outOfMore(l), sparse(l)}
}

// P6.1: the numbers of the chapter's sentence, and those that follow of it.
func TestLeastByHand(t *testing.T) {
	for height, want := range []int{0, 1, 2, 4, 7, 12, 20, 33, 54, 88} {
		if n := least(height); n != want {
			t.Errorf("a height of %d: %d things, want %d", height, n, want)
		}
	}
}

// P6.1
func TestOfByHand(t *testing.T) {
	check(t, Of("a"), []string{"a"})
	check(t, Of("a", "b"), []string{"a", "b"})
	check(t, Of("a", "b", "c"), []string{"a", "b", "c"})
	check(t, Of("b", "a", "b", "", "b"), []string{"b", "a", "b", "", "b"})
	for many, height := range []int{0, 1, 2} {
		if h := Height(Of(numbers(1, many)...)); h != height {
			t.Errorf("%d things are %d high, want %d", many, h, height)
		}
	}
}

// P6.1
func TestOfNothing(t *testing.T) {
	var none *Seq[int]
	for _, s := range []*Seq[int]{none, Of[int](), Of([]int{}...), Of([]int(nil)...), Join(none, none)} {
		check(t, s, nil)
		checkPlaces(t, s, nil)
		checkAt(t, s, 0, 0, false)
	}
}

// P6.1
func TestOfAndListAreTheThingsInOrder(t *testing.T) {
	for many := range 260 {
		l := numbers(1, many)
		s := Of(l...)
		check(t, s, l)
		checkPlaces(t, s, l)
	}
}

// P6.1: things of all kinds, also such as can't be held against each other; beside false stands their zero value.
func TestThingsOfAllKinds(t *testing.T) {
	type pair struct {
		key  uint64
		name string
	}
	pairs := []pair{{1, "a"}, {0, ""}, {math.MaxUint64, "b"}}
	check(t, Of(pairs...), pairs)
	checkPlaces(t, Of(pairs...), pairs)

	one, two := 1, 2
	pointers := []*int{&two, nil, &one}
	check(t, Of(pointers...), pointers)
	checkPlaces(t, Of(pointers...), pointers)

	things := []any{1, "one", nil, 1.5, pair{}}
	check(t, Of(things...), things)
	checkPlaces(t, Of(things...), things)

	lists := Join(Of([]int{1}), Of(nil, []int{2, 3}))
	if l, ok := At(lists, 2); !ok || !slices.Equal(l, []int{2, 3}) || Len(lists) != 3 {
		t.Errorf("At 2 of lists: %v, %v", l, ok)
	}
	if l, ok := At(lists, 3); ok || l != nil {
		t.Errorf("At 3 of lists: %v, %v", l, ok)
	}
	calls := Of(func() int { return 7 }, func() int { return 8 })
	if f, ok := At(calls, 1); !ok || f() != 8 {
		t.Error("At 1 of calls")
	}
	if f, ok := At(calls, -1); ok || f != nil {
		t.Error("At -1 of calls")
	}
	bare := Of(make([]struct{}, 5)...)
	check(t, bare, make([]struct{}, 5))
}

// P6.1: sequences that came of joins and splits, too.
func TestAtOfSequencesThatCameOfJoinsAndSplits(t *testing.T) {
	for many := range 70 {
		l := numbers(1, many)
		for _, s := range ways(l) {
			check(t, s, l)
			checkPlaces(t, s, l)
		}
	}
}

// P6.1: heights, of what grows at one end alone.
func TestHeightsOfWhatGrowsAtAnEnd(t *testing.T) {
	var behind, ahead, both *Seq[int]
	for n := range 700 {
		behind = Join(behind, Of(n))
		ahead = Join(Of(-n), ahead)
		both = Join(Join(Of(-n), both), Of(n))
		check(t, behind, numbers(0, n+1))
		check(t, ahead, numbers(-n, n+1))
		check(t, both, slices.Concat(numbers(-n, n+1), numbers(0, n+1)))
	}
}

// P6.1: heights, of what is taken away at one end alone.
func TestHeightsOfWhatDwindlesAtAnEnd(t *testing.T) {
	l := numbers(1, 600)
	for _, s := range ways(l) {
		first, others := s, s
		for n := range len(l) {
			check(t, first, l[:len(l)-n])
			check(t, others, l[n:])
			first, _ = Split(first, len(l)-n-1)
			_, others = Split(others, 1)
		}
		check(t, first, nil)
		check(t, others, nil)
	}
}

// P6.1: a list that was handed in, or answered, may be written into, as none is kept.
func TestListsAreNotShared(t *testing.T) {
	l := numbers(1, 50)
	s := Of(l...)
	first, others := Split(s, 20)
	for i := range l {
		l[i] = 0
	}
	check(t, s, numbers(1, 50))
	answered := List(s)
	answered[0], answered[30] = 0, 0
	_ = append(answered[:10], numbers(100, 20)...)
	check(t, s, numbers(1, 50))
	checkPlaces(t, s, numbers(1, 50))
	check(t, first, numbers(1, 20))
	check(t, others, numbers(21, 30))
	again := List(s)
	_ = append(again, 7)
	check(t, s, numbers(1, 50))
}

// P6.1: what is handed in stays as it was.
func TestOfLeavesTheListAsItWas(t *testing.T) {
	l := numbers(1, 40)
	s := Of(l[5:25]...)
	Join(s, Of(l[25:]...))
	Split(s, 7)
	if !slices.Equal(l, numbers(1, 40)) {
		t.Errorf("the list became %v", l)
	}
}

// P6.2: the chapter's example.
func TestSplitByHand(t *testing.T) {
	s := Of("a", "b", "c")
	first, others := Split(s, 1)
	check(t, first, []string{"a"})
	check(t, others, []string{"b", "c"})
	check(t, s, []string{"a", "b", "c"})
	check(t, Join(others, first), []string{"b", "c", "a"})
}

// P6.2
func TestJoinByHand(t *testing.T) {
	check(t, Join(Of("a", "b"), Of("c")), []string{"a", "b", "c"})
	check(t, Join(Of("c"), Of("a", "b")), []string{"c", "a", "b"})
	check(t, Join(nil, Of("a", "b")), []string{"a", "b"})
	check(t, Join(Of("a", "b"), nil), []string{"a", "b"})
	check(t, Join[string](nil, nil), nil)
}

// P6.2
func TestJoinOfAllLengths(t *testing.T) {
	for i := range 36 {
		for j := range 36 {
			l, m := numbers(1, i), numbers(101, j)
			for _, a := range ways(l) {
				for _, b := range ways(m) {
					checkJoin(t, a, b, l, m)
				}
			}
		}
	}
}

// P6.2: heights as far apart as they can be, and trees that lean to one side.
func TestJoinOfUnlikeHeights(t *testing.T) {
	for i := range 11 {
		for j := range 11 {
			l, m := numbers(1, least(i)), numbers(1001, least(j))
			for _, a := range []*Seq[int]{leaning(l, i), leaningBehind(l, i)} {
				for _, b := range []*Seq[int]{leaning(m, j), leaningBehind(m, j)} {
					checkJoin(t, a, b, l, m)
				}
			}
		}
	}
}

// P6.2
func TestJoinWithItself(t *testing.T) {
	for many := range 40 {
		l := numbers(1, many)
		for _, s := range ways(l) {
			checkJoin(t, s, s, l, l)
			first, others := Split(s, many/3)
			checkJoin(t, others, s, l[many/3:], l)
			checkJoin(t, s, first, l, l[:many/3])
		}
	}
}

// P6.2, P6.3: each place, and those below 0 and behind the last one.
func TestSplitAtEachPlace(t *testing.T) {
	for many := range 60 {
		l := numbers(1, many)
		for _, s := range ways(l) {
			for at := -3; at <= many+3; at++ {
				checkSplit(t, s, at, l)
			}
		}
	}
}

// P6.2, P6.3
func TestSplitOfTreesThatLean(t *testing.T) {
	for height := range 10 {
		l := numbers(1, least(height))
		for at := -1; at <= len(l)+1; at++ {
			checkSplit(t, leaning(l, height), at, l)
			checkSplit(t, leaningBehind(l, height), at, l)
		}
	}
}

// P6.2
func TestSplitFarBelowAndFarBehind(t *testing.T) {
	for _, many := range []int{0, 1, 2, 3, 50} {
		l := numbers(1, many)
		for _, s := range ways(l) {
			for _, at := range []int{math.MinInt, math.MinInt + 1, math.MinInt32, -1 << 32, -many - 1, 1 << 32, 1<<32 + 1, math.MaxInt32, math.MaxInt - 1, math.MaxInt} {
				checkSplit(t, s, at, l)
			}
		}
	}
}

// P6.2: sequences of long ago are as they were, whatever was made of them since.
func TestWhatWasHandedInStaysAsItWas(t *testing.T) {
	var kept []*Seq[int]
	var lists [][]int
	s, l := Of(numbers(1, 30)...), numbers(1, 30)
	words := spread.Words(200)
	for i, w := range words {
		kept, lists = append(kept, s), append(lists, l)
		at := int(w % uint64(len(l)+1))
		first, others := Split(s, at)
		s = Join(Join(others, Of(1000+i)), first)
		l = slices.Concat(l[at:], []int{1000 + i}, l[:at])
	}
	for i, k := range kept {
		check(t, k, lists[i])
		checkPlaces(t, k, lists[i])
	}
}

// P6.1, P6.2: many cuts and joins of many sequences, held against lists.
func TestManyCutsAndJoins(t *testing.T) {
	pool := []*Seq[int]{nil, Of(1), Of(numbers(1, 40)...)}
	lists := [][]int{nil, {1}, numbers(1, 40)}
	for i, w := range spread.Words(3000) {
		a, b := int(w>>8)%len(pool), int(w>>24)%len(pool)
		switch {
		case w%3 > 0 && len(lists[a])+len(lists[b]) <= 400:
			pool[a], lists[a] = Join(pool[a], pool[b]), slices.Concat(lists[a], lists[b])
			check(t, pool[a], lists[a])
		case len(lists[a]) > 0:
			at := int(w>>40) % (len(lists[a]) + 1)
			first, others := Split(pool[a], at)
			pool[a], pool[b], lists[a], lists[b] = first, others, lists[a][:at], lists[a][at:]
			if a == b {
				pool[a], lists[a] = others, lists[b]
			}
			check(t, pool[a], lists[a])
			check(t, pool[b], lists[b])
		default:
			pool[a], lists[a] = Of(i, i+1, i+2), []int{i, i + 1, i + 2}
		}
		if len(pool) < 12 {
			pool, lists = append(pool, Of(i)), append(lists, []int{i})
		}
	}
	for i, s := range pool {
		check(t, s, lists[i])
		checkPlaces(t, s, lists[i])
	}
}

// P6.3: cut to pieces, that are joined again from any end.
func TestWhatWasSplitIsJoinedAgain(t *testing.T) {
	for _, many := range []int{0, 1, 2, 7, 100, 400} {
		l := numbers(1, many)
		for _, step := range []int{1, 2, 3, 10, 99} {
			for _, s := range ways(l) {
				var pieces []*Seq[int]
				for others := s; others != nil; {
					var first *Seq[int]
					first, others = Split(others, step)
					pieces = append(pieces, first)
				}
				var behind, ahead *Seq[int]
				for i := range pieces {
					behind = Join(behind, pieces[i])
					ahead = Join(pieces[len(pieces)-1-i], ahead)
				}
				check(t, behind, l)
				check(t, ahead, l)
			}
		}
	}
}

// P6.2: few steps: a sequence of 2^30 things, that is made of itself, could be made in no other way.
func TestLongSequencesAreCutAndJoined(t *testing.T) {
	s := Of[uint8](1, 2)
	for range 29 {
		s = Join(s, s)
	}
	const many = 1 << 30
	if n, h := Len(s), Height(s); n != many || many < least(h) {
		t.Fatalf("%d things, %d high", n, h)
	}
	for _, at := range []int{1, 2, 3, 1000, many/3 + 1, many / 2, many/2 + 1, many - 1} {
		first, others := Split(s, at)
		if n, m := Len(first), Len(others); n != at || m != many-at {
			t.Errorf("Split at %d: %d and %d things", at, n, m)
		}
		checkAt(t, first, at-1, uint8((at-1)%2+1), true)
		checkAt(t, first, at, 0, false)
		checkAt(t, others, 0, uint8(at%2+1), true)
		checkAt(t, others, many-at-1, 2, true)
		checkAt(t, others, many-at, 0, false)
		for _, x := range []*Seq[uint8]{first, others, Join(others, first), Join(first, others)} {
			if Len(x) < least(Height(x)) {
				t.Errorf("Split at %d: %d things are %d high", at, Len(x), Height(x))
			}
		}
	}
}

// P6.2: few steps: no more new trees than a few for each step down.
func TestFewTreesAreNew(t *testing.T) {
	s := Of(numbers(1, 1<<16)...)
	one := Of(0)
	for _, at := range []int{1, 77, 1 << 15, 50000, 1<<16 - 1} {
		made := testing.AllocsPerRun(1, func() {
			first, others := Split(s, at)
			Join(others, first)
			Join(s, one)
			Join(one, s)
		})
		if made > 200 {
			t.Errorf("Split and Join at %d made %v trees", at, made)
		}
	}
}
