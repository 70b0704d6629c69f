package dict

import (
	"math"
	"slices"
	"testing"

	"raftsman/seq"
	"raftsman/spread"
)

// model is what a dictionary's pairs should be: a list in no order, that is asked pair by pair.
type model []Pair

// place is where the pair of key is, or -1.
func (m model) place(key uint64) int {
	return slices.IndexFunc(m, func(p Pair) bool { return p.Key == key })
}

func (m model) get(key uint64) (int, bool) {
	if i := m.place(key); i >= 0 {
		return m[i].N, true
	}
	return 0, false
}

func (m model) put(key uint64, n int) model {
	rest, _ := m.without(key)
	return append(rest, Pair{key, n})
}

func (m model) without(key uint64) (model, bool) {
	i := m.place(key)
	if i < 0 {
		return slices.Clone(m), false
	}
	return slices.Concat(m[:i], m[i+1:]), true
}

func (m model) from(key uint64) int {
	count := 0
	for _, p := range m {
		if p.Key < key {
			count++
		}
	}
	return count
}

// rising is the list by rising keys, each pair at the place that its key tells.
func (m model) rising() []Pair {
	list := make([]Pair, len(m))
	for _, p := range m {
		list[m.from(p.Key)] = p
	}
	return list
}

// numbers are what may stand by a key, 0 and numbers below it among them.
func numbers() []int {
	return []int{0, 1, -1, 7, math.MinInt, math.MaxInt, math.MinInt32, 1 << 32, -1 << 32}
}

// keys are first, and those behind it in steps.
func keys(first, step uint64, many int) []uint64 {
	list := make([]uint64, many)
	for i := range list {
		list[i] = first + step*uint64(i)
	}
	return list
}

func falling(list []uint64) []uint64 {
	list = slices.Clone(list)
	slices.Reverse(list)
	return list
}

// mixed are the same keys, by words that are all over the 64 bits.
func mixed(list []uint64) []uint64 {
	list = slices.Clone(list)
	for i, w := range spread.Words(len(list)) {
		j := i + int(w%uint64(len(list)-i))
		list[i], list[j] = list[j], list[i]
	}
	return list
}

// of is a dictionary of these pairs, put one by one.
func of(pairs ...Pair) Dict {
	var d Dict
	for _, p := range pairs {
		d = Put(d, p.Key, p.N)
	}
	return d
}

// numbered are keys, each with a number of its own.
func numbered(list []uint64) model {
	m := make(model, len(list))
	for i, key := range list {
		m[i] = Pair{key, i*i - 5}
	}
	return m
}

func checkPairs(t *testing.T, d Dict, want ...Pair) {
	t.Helper()
	if l := Pairs(d); !slices.Equal(l, want) {
		t.Errorf("Pairs: %v, want %v", l, want)
	}
	if n := Many(d); n != len(want) {
		t.Errorf("Many: %d, want %d", n, len(want))
	}
	checkHeight(t, d, len(want))
}

// checkHeight asks for the sequence's height, and whether that many pairs can be so high in trees that stand well.
func checkHeight(t *testing.T, d Dict, many int) {
	t.Helper()
	// How many things a tree of that height has at least, as layer 6's chapter counts them, and at most.
	least := []int{0, 1, 2, 4, 7, 12, 20, 33, 54, 88, 143, 232, 376, 609, 986, 1596, 2583, 4180}
	h := Height(d)
	if h != seq.Height(d.s) {
		t.Errorf("Height: %d, its sequence's is %d", h, seq.Height(d.s))
	}
	if h < 0 || h >= len(least) || many < least[h] || many > 1<<h-1 {
		t.Errorf("Height of %d keys: %d", many, h)
	}
}

func checkGet(t *testing.T, d Dict, key uint64, want int, there bool) {
	t.Helper()
	if n, ok := Get(d, key); n != want || ok != there {
		t.Errorf("Get(%v, %d): %d, %v, want %d, %v", Pairs(d), key, n, ok, want, there)
	}
}

func checkFrom(t *testing.T, d Dict, key uint64, want int) {
	t.Helper()
	if n := From(d, key); n != want {
		t.Errorf("From(%v, %d): %d, want %d", Pairs(d), key, n, want)
	}
}

// check asks d for all that there is to ask: of each of its keys, of those beside it, and of those at the edges.
func check(t *testing.T, d Dict, m model) {
	t.Helper()
	checkPairs(t, d, m.rising()...)
	asked := spread.Ends()
	for _, p := range m {
		asked = append(asked, p.Key-1, p.Key, p.Key+1)
	}
	for _, key := range asked {
		n, there := m.get(key)
		checkGet(t, d, key, n, there)
		checkFrom(t, d, key, m.from(key))
	}
}

func checkPut(t *testing.T, d Dict, m model, key uint64, n int) (Dict, model) {
	t.Helper()
	with, want := Put(d, key, n), m.put(key, n)
	check(t, with, want)
	check(t, d, m)
	return with, want
}

func checkDelete(t *testing.T, d Dict, m model, key uint64) (Dict, model) {
	t.Helper()
	without, ok := Delete(d, key)
	want, there := m.without(key)
	if ok != there {
		t.Errorf("Delete(%v, %d): %v, want %v", Pairs(d), key, ok, there)
	}
	// Beside false stands d: so it is as high, too.
	if !there && Height(without) != Height(d) {
		t.Errorf("Delete of %d, that is not there: from a height of %d to %d", key, Height(d), Height(without))
	}
	check(t, without, want)
	check(t, d, m)
	return without, want
}

// P7.1, P7.2: the first one is the chapter's example.
func TestByHand(t *testing.T) {
	d := of(Pair{5, 50}, Pair{3, 30})
	checkPairs(t, d, Pair{3, 30}, Pair{5, 50})
	checkGet(t, d, 3, 30, true)
	checkGet(t, d, 5, 50, true)
	checkGet(t, d, 4, 0, false)
	for key, want := range []int{0, 0, 0, 0, 1, 1, 2, 2} {
		checkFrom(t, d, uint64(key), want)
	}

	e := Put(d, 4, 40)
	checkPairs(t, e, Pair{3, 30}, Pair{4, 40}, Pair{5, 50})
	e = Put(e, 3, 31)
	checkPairs(t, e, Pair{3, 31}, Pair{4, 40}, Pair{5, 50})
	e, ok := Delete(e, 4)
	if !ok {
		t.Error("Delete of 4: false")
	}
	checkPairs(t, e, Pair{3, 31}, Pair{5, 50})
	checkGet(t, e, 4, 0, false)
	checkPairs(t, d, Pair{3, 30}, Pair{5, 50})
}

// P7.2
func TestHeightByHand(t *testing.T) {
	var d Dict
	for many, want := range []int{0, 1, 2, 2, 3} {
		if h := Height(d); h != want {
			t.Errorf("%d keys are %d high, want %d", many, h, want)
		}
		d = Put(d, uint64(many), 0)
	}
}

// without is a dictionary that had that key, and no other one.
func without(t *testing.T, key uint64) Dict {
	t.Helper()
	d, ok := Delete(Put(Dict{}, key, 1), key)
	if !ok {
		t.Errorf("Delete of the one key %d: false", key)
	}
	return d
}

// P7.1, P7.2: of no keys there may be one; 0 is not there either, though it is what a pair that is none has.
func TestNoKeys(t *testing.T) {
	none, _ := Delete(Dict{}, 5)
	for _, d := range []Dict{{}, none, without(t, 0), without(t, 5), without(t, math.MaxUint64)} {
		check(t, d, nil)
		if h := Height(d); h != 0 {
			t.Errorf("Height: %d", h)
		}
		for _, key := range spread.Ends() {
			checkDelete(t, d, nil, key)
			for _, n := range numbers() {
				checkPut(t, d, nil, key, n)
			}
		}
	}
}

// P7.1, P7.2: one key, and one beside it, of all that stand at the edges.
func TestKeysAtTheEdges(t *testing.T) {
	for _, a := range spread.Ends() {
		for _, b := range spread.Ends() {
			m := model{}.put(a, 3).put(b, -4)
			d := of(Pair{a, 3}, Pair{b, -4})
			check(t, d, m)
			for _, key := range spread.Ends() {
				checkDelete(t, d, m, key)
				checkPut(t, d, m, key, 9)
			}
		}
	}
}

// P7.1: a number of 0, or below it, is there as any other one is.
func TestNumbers(t *testing.T) {
	m := numbered(keys(10, 3, 9))
	d := of(m...)
	for i, n := range numbers() {
		d, m = checkPut(t, d, m, m[0].Key, n)
		d, m = checkPut(t, d, m, uint64(100+i), n)
	}
	for _, n := range numbers() {
		one := of(Pair{7, n})
		checkGet(t, one, 7, n, true)
		checkGet(t, one, 6, 0, false)
		checkGet(t, one, 8, 0, false)
	}
}

// orders are keys that rise, that fall, and that come mixed.
func orders(list []uint64) [][]uint64 {
	return [][]uint64{list, falling(list), mixed(list), mixed(falling(list))}
}

// P7.1, P7.2: put and deleted in each order, of each number of keys; what there was is asked behind each step.
func TestKeysThatRiseAndFallAndComeMixed(t *testing.T) {
	for many := range 24 {
		for _, in := range orders(keys(0, 2, many)) {
			for _, out := range orders(in) {
				var d Dict
				var m model
				for i, key := range in {
					d, m = checkPut(t, d, m, key, i-3)
				}
				for _, key := range out {
					d, m = checkDelete(t, d, m, key)
				}
				check(t, d, nil)
			}
		}
	}
}

// P7.1, P7.2: keys all over the 64 bits, in dictionaries that are many steps high.
func TestManyKeys(t *testing.T) {
	words := spread.Words(700)
	for _, list := range append(orders(keys(0, 3, 700)), words, keys(math.MaxUint64-2100, 3, 700), keys(1<<63-1050, 3, 700)) {
		m := numbered(list)
		d := of(m...)
		check(t, d, m)
		for i, key := range mixed(list) {
			if i%3 > 0 {
				var there, ok bool
				d, ok = Delete(d, key)
				m, there = m.without(key)
				if ok != there {
					t.Errorf("Delete of %d: %v, want %v", key, ok, there)
				}
				checkHeight(t, d, len(m))
			}
		}
		check(t, d, m)
	}
}

// P7.1: the number is another one, all else is as it was.
func TestPutAgain(t *testing.T) {
	for many := range 40 {
		m := numbered(mixed(keys(5, 2, many)))
		d := of(m...)
		for _, p := range slices.Clone(m) {
			checkPut(t, d, m, p.Key, p.N)
			checkPut(t, d, m, p.Key, 0)
			d, m = checkPut(t, d, m, p.Key, p.N+1000)
		}
	}
}

// P7.1: a key less than all, between any two, and greater than all; and one that is deleted twice.
func TestDeleteWhatIsNotThere(t *testing.T) {
	for many := range 40 {
		m := numbered(mixed(keys(5, 2, many)))
		d := of(m...)
		for key := range uint64(2*many + 10) {
			if m.place(key) < 0 {
				checkDelete(t, d, m, key)
			}
		}
		for _, p := range slices.Clone(m) {
			d, m = checkDelete(t, d, m, p.Key)
			d, m = checkDelete(t, d, m, p.Key)
		}
	}
}

// P7.1: dictionaries of long ago are as they were, whatever was made of them since.
func TestWhatWasHandedInStaysAsItWas(t *testing.T) {
	var kept []Dict
	var models []model
	var d Dict
	var m model
	for i, w := range spread.Words(400) {
		kept, models = append(kept, d), append(models, m)
		key := w >> 32 % 60
		if w%3 == 0 {
			d, _ = Delete(d, key)
			m, _ = m.without(key)
		} else {
			d, m = Put(d, key, i), m.put(key, i)
		}
	}
	for i, k := range kept {
		check(t, k, models[i])
	}
}

// P7.2: what is written into the pairs that were answered is told nowhere else.
func TestPairsAreNewMemory(t *testing.T) {
	m := numbered(keys(5, 2, 30))
	d := of(m...)
	l, other := Pairs(d), Pairs(d)
	for i := range l {
		l[i] = Pair{1000, 1000}
	}
	l = append(l[:0], Pair{2000, 2000})
	if !slices.Equal(other, m.rising()) || len(l) != 1 {
		t.Errorf("Pairs that were answered ahead: %v", other)
	}
	check(t, d, m)
}

// P7.3: of all keys that ever were, each has the number that was put last, or none, as it was deleted.
func TestLastNumberTillItIsDeleted(t *testing.T) {
	last := map[uint64]int{}
	var d Dict
	ends := spread.Ends()
	for i, w := range spread.Words(3000) {
		key := ends[w>>40%uint64(len(ends))] + w>>20%4
		if w%5 < 2 {
			_, there := last[key]
			e, ok := Delete(d, key)
			if ok != there {
				t.Errorf("step %d: Delete of %d: %v, want %v", i, key, ok, there)
			}
			delete(last, key)
			d = e
		} else {
			last[key] = int(w>>8)%100 - 50
			d = Put(d, key, last[key])
		}
		for _, end := range ends {
			for near := range uint64(4) {
				n, there := last[end+near]
				checkGet(t, d, end+near, n, there)
			}
		}
		if Many(d) != len(last) || len(Pairs(d)) != len(last) {
			t.Fatalf("step %d: %d keys, %d pairs, want %d", i, Many(d), len(Pairs(d)), len(last))
		}
	}
}
