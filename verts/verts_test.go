package verts

import (
	"math"
	"slices"
	"testing"

	"raftsman/api"
	"raftsman/spread"
)

// maxN is written in digits, so that a wrong api.MaxN would be told, too.
const maxN = 1024

// greatest is the greatest number of 64 bits.
const greatest = math.MaxUint64

func used(key uint64) Slot { return Slot{Used: true, Key: key} }

// isDirectory is the chapter's sentence.
func isDirectory(l []Slot) bool {
	for i, s := range l {
		if !s.Used && s.Key != 0 || s.Used && slices.Contains(l[:i], s) {
			return false
		}
	}
	return 1 <= len(l) && len(l) <= maxN
}

// wanted is what is to be told of a key, by slots that are gone through one by one.
type wanted struct {
	vertex int
	there  bool
	// Where the key would be added; below 0, if all slots are Used.
	free int
}

func want(l []Slot, key uint64) wanted {
	w := wanted{free: slices.Index(l, Slot{})}
	if v := slices.Index(l, used(key)); v >= 0 {
		w.vertex, w.there = v, true
	}
	return w
}

// rising are the keys, each at the place that the lesser ones leave to it.
func rising(l []Slot) []uint64 {
	keys := make([]uint64, len(l))
	many := 0
	for _, s := range l {
		if !s.Used {
			continue
		}
		many++
		less := 0
		for _, other := range l {
			if other.Used && other.Key < s.Key {
				less++
			}
		}
		keys[less] = s.Key
	}
	return keys[:many]
}

// but is l with another slot at a place.
func but(l []Slot, v int, s Slot) []Slot { return slices.Concat(l[:v], []Slot{s}, l[v+1:]) }

// loose are slots in a list that has room behind them, that is nobody's to write into.
func loose(l []Slot) []Slot {
	return append(slices.Clone(l), used(70), Slot{Key: 80})[:len(l)]
}

// checkAsItWas looks at what was handed in, and behind it.
func checkAsItWas(t *testing.T, l, kept []Slot) {
	t.Helper()
	if !slices.Equal(l[:len(l)+2], append(slices.Clone(kept), used(70), Slot{Key: 80})) {
		t.Errorf("the slots became %v, they were %v", l[:len(l)+2], kept)
	}
}

func checkNew(t *testing.T, n int, want []Slot, err api.Errno) {
	t.Helper()
	if l, e := New(n); e != err || !slices.Equal(l, want) {
		t.Errorf("New(%d): %v, %d, want %v, %d", n, l, e, want, err)
	}
}

func checkRight(t *testing.T, kept []Slot, want bool) {
	t.Helper()
	l := loose(kept)
	if got := Right(l); got != want {
		t.Errorf("Right(%v): %v", kept, got)
	}
	checkAsItWas(t, l, kept)
}

func checkFind(t *testing.T, kept []Slot, key uint64, want int, there bool) {
	t.Helper()
	l := loose(kept)
	if v, ok := Find(l, key); v != want || ok != there {
		t.Errorf("Find(%v, %d): %d, %v, want %d, %v", kept, key, v, ok, want, there)
	}
	checkAsItWas(t, l, kept)
}

func checkAdd(t *testing.T, kept []Slot, key uint64, want []Slot, v int, err api.Errno) []Slot {
	t.Helper()
	l := loose(kept)
	m, at, e := Add(l, key)
	if e != err || at != v || !slices.Equal(m, want) {
		t.Errorf("Add(%v, %d): %v, %d, %d, want %v, %d, %d", kept, key, m, at, e, want, v, err)
	}
	checkAsItWas(t, l, kept)
	return m
}

func checkRemove(t *testing.T, kept []Slot, key uint64, want []Slot, err api.Errno) []Slot {
	t.Helper()
	l := loose(kept)
	m, e := Remove(l, key)
	if e != err || !slices.Equal(m, want) {
		t.Errorf("Remove(%v, %d): %v, %d, want %v, %d", kept, key, m, e, want, err)
	}
	checkAsItWas(t, l, kept)
	return m
}

func checkKeys(t *testing.T, kept []Slot, want []uint64) {
	t.Helper()
	l := loose(kept)
	if got := Keys(l); !slices.Equal(got, want) {
		t.Errorf("Keys(%v): %v, want %v", kept, got, want)
	}
	checkAsItWas(t, l, kept)
}

// checkKey asks of a directory all that may be asked of one key.
func checkKey(t *testing.T, l []Slot, key uint64) {
	t.Helper()
	w := want(l, key)
	checkFind(t, l, key, w.vertex, w.there)
	if w.there {
		checkAdd(t, l, key, l, 0, api.ErrThere)
		checkRemove(t, l, key, but(l, w.vertex, Slot{}), api.OK)
		return
	}
	checkRemove(t, l, key, l, api.ErrVertex)
	if w.free < 0 {
		checkAdd(t, l, key, l, 0, api.ErrFull)
	} else {
		checkAdd(t, l, key, but(l, w.free, used(key)), w.free, api.OK)
	}
}

// checkDirectory asks of a directory, and of these keys.
func checkDirectory(t *testing.T, l []Slot, keys ...uint64) {
	t.Helper()
	checkRight(t, l, true)
	checkKeys(t, l, rising(l))
	for _, key := range keys {
		checkKey(t, l, key)
	}
}

// checkNoDirectory asks of what is none, of these keys, and of those that its slots have.
func checkNoDirectory(t *testing.T, l []Slot, keys ...uint64) {
	t.Helper()
	checkRight(t, l, false)
	checkKeys(t, l, nil)
	for _, s := range l[:min(len(l), 3)] {
		keys = append(keys, s.Key)
	}
	for _, key := range keys {
		checkFind(t, l, key, 0, false)
		checkAdd(t, l, key, l, 0, api.ErrArg)
		checkRemove(t, l, key, l, api.ErrArg)
	}
}

// numbered are slots that are all Used, their keys first, and those behind it in steps.
func numbered(n int, first, step uint64) []Slot {
	l := make([]Slot, n)
	for v := range l {
		l[v] = used(first + step*uint64(v))
	}
	return l
}

// mixed are slots that are all Used, their keys all over the 64 bits.
func mixed(n int) []Slot {
	l := make([]Slot, n)
	for v, w := range spread.Words(n) {
		l[v] = used(w)
	}
	return l
}

// places are some of n, the first ones and the last ones among them.
func places(n int) []int {
	var list []int
	for _, v := range spread.Spots(n) {
		if 0 <= v && v < n && !slices.Contains(list, v) {
			list = append(list, v)
		}
	}
	return list
}

// P11.2: the chapter's example.
func TestExample(t *testing.T) {
	l, err := New(2)
	if err != api.OK {
		t.Fatal(err)
	}
	l = checkAdd(t, l, 9, []Slot{used(9), {}}, 0, api.OK)
	l = checkAdd(t, l, 5, []Slot{used(9), used(5)}, 1, api.OK)
	l = checkRemove(t, l, 9, []Slot{{}, used(5)}, api.OK)
	l = checkAdd(t, l, 7, []Slot{used(7), used(5)}, 0, api.OK)
	checkFind(t, l, 7, 0, true)
	checkFind(t, l, 5, 1, true)
	checkFind(t, l, 9, 0, false)
	checkKeys(t, l, []uint64{5, 7})
}

// P11.1, P11.2
func TestByHand(t *testing.T) {
	l := []Slot{used(9), {}, used(0), used(greatest), {}, used(1 << 63)}
	checkRight(t, l, true)
	checkKeys(t, l, []uint64{0, 9, 1 << 63, greatest})
	checkFind(t, l, 9, 0, true)
	checkFind(t, l, 0, 2, true)
	checkFind(t, l, greatest, 3, true)
	checkFind(t, l, 1<<63, 5, true)
	checkFind(t, l, 5, 0, false)
	checkAdd(t, l, 5, []Slot{used(9), used(5), used(0), used(greatest), {}, used(1 << 63)}, 1, api.OK)
	checkAdd(t, l, 9, l, 0, api.ErrThere)
	checkAdd(t, l, 0, l, 0, api.ErrThere)
	checkAdd(t, l, 1<<63, l, 0, api.ErrThere)
	checkRemove(t, l, 0, []Slot{used(9), {}, {}, used(greatest), {}, used(1 << 63)}, api.OK)
	checkRemove(t, l, 1<<63, []Slot{used(9), {}, used(0), used(greatest), {}, {}}, api.OK)
	checkRemove(t, l, 5, l, api.ErrVertex)
}

// P11.1
func TestNew(t *testing.T) {
	for n := 1; n <= maxN; n++ {
		checkNew(t, n, make([]Slot, n), api.OK)
	}
	for _, n := range append(spread.WrongSizes(), 0) {
		checkNew(t, n, nil, api.ErrArg)
	}
}

// P11.1, P11.2: each of them is wrong in one thing alone.
func TestNoDirectoriesByHand(t *testing.T) {
	for _, l := range [][]Slot{
		nil,
		{},
		{{Key: 1}},
		{{Key: greatest}},
		{{Key: 1 << 63}},
		{used(0), used(0)},
		{used(7), used(7)},
		{used(7), {Key: 7}},
		{{Key: 7}, used(7)},
		{used(7), {Key: 8}, {}},
		{{}, {Key: 7}, used(8)},
		{{Key: 7}, {Key: 7}},
		{used(greatest), {}, used(5), used(greatest)},
		{{}, used(0), {}, used(0), {}},
		{used(5), used(3), used(4), used(3)},
	} {
		checkNoDirectory(t, l, 0, 1, 5, 7, 8, greatest)
	}
}

// P11.1, P11.2: how many slots there may be.
func TestSizes(t *testing.T) {
	for _, n := range []int{1, 2, 3, maxN - 1, maxN} {
		checkDirectory(t, make([]Slot, n), 0, 1, greatest)
		for _, l := range [][]Slot{numbered(n, 0, 1), numbered(n, greatest, greatest), mixed(n)} {
			checkDirectory(t, l, 0, greatest, l[0].Key, l[n-1].Key, l[n/2].Key)
			checkDirectory(t, but(l, n-1, Slot{}), 0, greatest, l[0].Key, l[n-1].Key)
		}
	}
	for _, n := range []int{0, maxN + 1, maxN + 2, 2 * maxN, 64 * maxN, 64*maxN + 5} {
		checkNoDirectory(t, make([]Slot, n), 0, 1, greatest)
		checkNoDirectory(t, numbered(n, 0, 1), 0, 1, uint64(n), greatest)
		checkNoDirectory(t, mixed(n), 0, greatest)
	}
}

// P11.1, P11.2: the one slot.
func TestOneSlot(t *testing.T) {
	for _, key := range spread.Ends() {
		checkDirectory(t, []Slot{{}}, key)
		checkDirectory(t, []Slot{used(key)}, spread.Ends()...)
		if key == 0 {
			continue
		}
		checkNoDirectory(t, []Slot{{Key: key}}, spread.Ends()...)
	}
}

// P11.1, P11.2: a Key that is not 0 in a slot that is not Used, wherever it stands.
func TestKeysInSlotsThatAreNotUsed(t *testing.T) {
	for _, n := range []int{1, 2, 5, 60, maxN} {
		for _, v := range places(n) {
			for _, l := range [][]Slot{make([]Slot, n), numbered(n, 0, 1), mixed(n)} {
				checkNoDirectory(t, but(l, v, Slot{Key: 1}), 1)
				checkNoDirectory(t, but(l, v, Slot{Key: greatest}), 0)
				checkNoDirectory(t, but(l, v, Slot{Key: max(l[n-1].Key, 1)}), 5)
				checkDirectory(t, but(l, v, Slot{}), 0, 1)
			}
		}
	}
}

// P11.1, P11.2: one Key in two slots that are Used, or in three, wherever they stand.
func TestKeysInTwoSlots(t *testing.T) {
	for _, n := range []int{2, 3, 8, maxN} {
		for _, l := range [][]Slot{make([]Slot, n), numbered(n, 1<<40, 3), mixed(n)} {
			for _, v := range places(n) {
				for _, w := range places(n) {
					once := but(l, v, used(0))
					if v == w {
						checkDirectory(t, once, 0)
						continue
					}
					checkNoDirectory(t, but(once, w, used(0)), 0, 1)
					checkNoDirectory(t, but(but(once, w, used(0)), n/2, used(0)), 0)
				}
			}
		}
	}
	for _, key := range spread.Ends() {
		checkNoDirectory(t, []Slot{used(key), used(key)}, spread.Ends()...)
		checkNoDirectory(t, []Slot{used(key), {}, used(key + 1), used(key)}, key, key+1, key-1)
	}
}

// P11.1, P11.2: all lists of up to five slots, of these.
func TestAllShortLists(t *testing.T) {
	slots := []Slot{{}, used(0), used(1), used(5), used(greatest), {Key: 1}, {Key: greatest}}
	keys := []uint64{0, 1, 2, 5, greatest - 1, greatest}
	for n := range 6 {
		for _, places := range spread.Lists(n, 0, len(slots)-1) {
			l := make([]Slot, n)
			for v, at := range places {
				l[v] = slots[at]
			}
			if isDirectory(l) {
				checkDirectory(t, l, keys...)
			} else {
				checkNoDirectory(t, l, keys...)
			}
		}
	}
}

// P11.2: of each choice of slots that are Used the first other one is the one that is.
func TestFirstSlotThatIsNotUsed(t *testing.T) {
	for n := 1; n <= 8; n++ {
		for choice := range 1 << n {
			l := numbered(n, 300, greatest)
			for v := range l {
				if choice>>v&1 == 0 {
					l[v] = Slot{}
				}
			}
			checkDirectory(t, l, 0, 300, 299, 298, 301)
		}
	}
	for _, v := range places(maxN) {
		l := but(numbered(maxN, 1, 2), v, Slot{})
		checkAdd(t, l, 6, but(l, v, used(6)), v, api.OK)
		for _, w := range places(maxN) {
			m := but(l, w, Slot{})
			checkAdd(t, m, 0, but(m, min(v, w), used(0)), min(v, w), api.OK)
		}
	}
}

// P11.2: a key that is there is told ahead of that there is no slot left.
func TestAllSlotsUsed(t *testing.T) {
	for _, n := range []int{1, 2, 7, maxN} {
		for _, l := range [][]Slot{numbered(n, 0, 1), numbered(n, 5, 1<<50), mixed(n)} {
			for _, v := range places(n) {
				checkAdd(t, l, l[v].Key, l, 0, api.ErrThere)
				checkAdd(t, l, l[v].Key+1<<49, l, 0, api.ErrFull)
				m := checkRemove(t, l, l[v].Key, but(l, v, Slot{}), api.OK)
				checkAdd(t, m, l[v].Key, l, v, api.OK)
			}
			checkAdd(t, l, greatest, l, 0, api.ErrFull)
		}
	}
}

// P11.2: nothing is there, 0 neither, though it is the Key of slots that are not Used.
func TestNoSlotUsed(t *testing.T) {
	for _, n := range []int{1, 2, 7, maxN} {
		l, err := New(n)
		if err != api.OK {
			t.Fatalf("New(%d): %d", n, err)
		}
		checkDirectory(t, l, spread.Ends()...)
		checkKeys(t, l, nil)
		l = checkAdd(t, l, 0, but(l, 0, used(0)), 0, api.OK)
		checkKeys(t, l, []uint64{0})
		checkDirectory(t, l, spread.Ends()...)
		l = checkRemove(t, l, 0, make([]Slot, n), api.OK)
		checkKeys(t, l, nil)
	}
}

// P11.1, P11.2: keys that differ in few bits, in the highest ones alone or in the lowest ones alone.
func TestKeysAtTheEdges(t *testing.T) {
	ends := spread.Ends()
	l, _ := New(len(ends) + 2)
	for v, key := range ends {
		for _, other := range ends {
			if other != key {
				checkDirectory(t, []Slot{used(other), {}, used(key)}, ends...)
			}
		}
		l = checkAdd(t, l, key, but(l, v, used(key)), v, api.OK)
		checkDirectory(t, l, ends...)
	}
	checkKeys(t, l, ends)
	turned := slices.Clone(l)
	slices.Reverse(turned)
	checkDirectory(t, turned, ends...)
	checkKeys(t, turned, ends)
}

// P11.2: keys that rise, that fall, and that come mixed.
func TestKeysRise(t *testing.T) {
	for _, n := range []int{2, 3, 10, 100, maxN} {
		keys := make([]uint64, n)
		for v := range keys {
			keys[v] = uint64(v) << 53
		}
		l := numbered(n, 0, 1<<53)
		checkKeys(t, l, keys)
		slices.Reverse(l)
		checkKeys(t, l, keys)
		words := spread.Words(n)
		slices.Sort(words)
		checkKeys(t, mixed(n), words)
	}
}

// checkWalk adds and removes keys by words, step by step, and holds each key's slot against where it was added.
func checkWalk(t *testing.T, n, steps int, keys []uint64) {
	t.Helper()
	l, err := New(n)
	if err != api.OK {
		t.Fatalf("New(%d): %d", n, err)
	}
	vertices := map[uint64]int{}
	for step, w := range spread.Words(steps) {
		key := keys[w>>20%uint64(len(keys))]
		old, there := vertices[key]
		if w>>50%5 < 2 {
			m, err := Remove(l, key)
			if there != (err == api.OK) || !there && err != api.ErrVertex {
				t.Fatalf("step %d: Remove(%v, %d): %d", step, l, key, err)
			}
			delete(vertices, key)
			l = m
		} else {
			m, v, err := Add(l, key)
			checkStep(t, there, len(vertices) == n, err)
			if err == api.OK {
				vertices[key] = v
			}
			l = m
		}
		if _, again := vertices[key]; there && again && vertices[key] != old {
			t.Fatalf("step %d: %d went from %d to %d", step, key, old, vertices[key])
		}
		checkSlots(t, l, n, vertices)
	}
}

// checkStep holds the error of an Add against what was there ahead of it.
func checkStep(t *testing.T, there, full bool, err api.Errno) {
	t.Helper()
	want := api.OK
	if there {
		want = api.ErrThere
	} else if full {
		want = api.ErrFull
	}
	if err != want {
		t.Fatalf("Add: %d, want %d", err, want)
	}
}

// checkSlots looks for each key in the slot where it was added, and for nothing in all others.
func checkSlots(t *testing.T, l []Slot, n int, vertices map[uint64]int) {
	t.Helper()
	want := make([]Slot, n)
	for key, v := range vertices {
		want[v] = used(key)
	}
	if !slices.Equal(l, want) {
		t.Fatalf("the slots are %v, want %v", l, want)
	}
	if !Right(l) || !slices.Equal(Keys(l), rising(want)) {
		t.Fatalf("%v: %v, %v", l, Right(l), Keys(l))
	}
	for key, v := range vertices {
		checkFind(t, l, key, v, true)
	}
}

// P11.3: a key is there from when it is added on, in one slot, till it is removed.
func TestThereTillItIsRemoved(t *testing.T) {
	for _, n := range []int{1, 2, 5, 10, 20} {
		checkWalk(t, n, 1500, spread.Ends())
		checkWalk(t, n, 500, []uint64{0, 1, 2})
	}
	checkWalk(t, 60, 600, spread.Words(70))
}

// P11.3: as many keys as there may be, added, removed and added again.
func TestAllVertices(t *testing.T) {
	l, _ := New(maxN)
	words := spread.Words(2 * maxN)
	for v, key := range words[:maxN] {
		m, at, err := Add(l, key)
		if at != v || err != api.OK {
			t.Fatalf("Add of %d: %d, %d", key, at, err)
		}
		l = m
	}
	if !slices.Equal(l, mixed(maxN)) {
		t.Errorf("the slots are %v", l)
	}
	for v := 0; v < maxN; v += 17 {
		l = checkRemove(t, l, words[v], but(l, v, Slot{}), api.OK)
		checkFind(t, l, words[v], 0, false)
	}
	for v := 0; v < maxN; v += 17 {
		key := words[maxN+v]
		l = checkAdd(t, l, key, but(l, v, used(key)), v, api.OK)
		checkFind(t, l, key, v, true)
	}
	checkAdd(t, l, words[0], l, 0, api.ErrFull)
	checkAdd(t, l, words[1], l, 0, api.ErrThere)
}

// R1: directories of long ago are as they were, whatever was made of them since.
func TestWhatWasHandedInStaysAsItWas(t *testing.T) {
	var kept, copies [][]Slot
	l, _ := New(7)
	for _, w := range spread.Words(400) {
		kept, copies = append(kept, l), append(copies, slices.Clone(l))
		if key := w >> 40 % 12; w>>8%2 == 0 {
			l, _ = Remove(l, key)
		} else {
			l, _, _ = Add(l, key)
		}
	}
	for i, l := range kept {
		if !slices.Equal(l, copies[i]) {
			t.Errorf("step %d: %v, it was %v", i, l, copies[i])
		}
	}
}

// wipe writes into all of a list, and behind it as far as it has room.
func wipe[T any](l []T, x T) {
	l = l[:cap(l)]
	for i := range l {
		l[i] = x
	}
}

// R1: what is written into an answer, or behind it, is told nowhere else.
func TestAnswersAreNewMemory(t *testing.T) {
	for _, kept := range [][]Slot{{{}}, {used(5)}, {used(5), {}}, {{}, used(5), used(0), {}}, append(mixed(60), Slot{}), numbered(maxN, 5, 3)} {
		l := loose(kept)
		wipe(Keys(l), 1000)
		if m, _, err := Add(l, 7); err == api.OK {
			wipe(m, used(1000))
		}
		if m, err := Remove(l, 5); err == api.OK {
			wipe(m, used(1000))
		}
		checkAsItWas(t, l, kept)
		checkDirectory(t, l, 0, 5, 7, 1000)

		m, _ := New(len(kept))
		wipe(m, used(1000))
		checkNew(t, len(kept), make([]Slot, len(kept)), api.OK)
	}
}
