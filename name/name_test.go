package name

import (
	"math"
	"slices"
	"testing"

	"raftsman/api"
	"raftsman/spread"
)

// half and last are written in digits, so that a wrong api.Half would be told, too.
const (
	half = 16777216
	last = 16777215
)

// vertices are the edges of what a vertex may be, and some between.
func vertices() []int {
	return []int{0, 1, 2, 3, 5, 255, 256, 1023, 1024, 65535, 65536, half / 2, last - 2, last - 1, last}
}

// noVertices are what a vertex can't be; some of them are vertices in their lowest 24 or 32 bits.
func noVertices() []int {
	return []int{-1, -2, -half, math.MinInt, math.MinInt32, half, half + 1, 2 * half, 1 << 32, 1<<32 + 5, 1 << 48, math.MaxInt}
}

func checkOf(t *testing.T, u, v int, want uint64, err api.Errno) {
	t.Helper()
	if n, e := Of(u, v); n != want || e != err {
		t.Errorf("Of(%d, %d): %d, %d, want %d, %d", u, v, n, e, want, err)
	}
}

func checkEnds(t *testing.T, name uint64, u, v int, there bool) {
	t.Helper()
	if a, b, ok := Ends(name); a != u || b != v || ok != there {
		t.Errorf("Ends(%d): %d, %d, %v, want %d, %d, %v", name, a, b, ok, u, v, there)
	}
}

func checkFind(t *testing.T, l []api.Edge, u, v, place int, there bool) {
	t.Helper()
	if i, ok := Find(l, u, v); i != place || ok != there {
		t.Errorf("Find(%v, %d, %d): %d, %v, want %d, %v", l, u, v, i, ok, place, there)
	}
}

// P3.1: names in digits; the first one is the chapter's example.
func TestOfByHand(t *testing.T) {
	for _, c := range []struct {
		u, v int
		name uint64
	}{
		{5, 3, 50331653},
		{0, 1, 1},
		{1, 2, 16777218},
		{0, last, 16777215},
		{1, last, 33554431},
		{last - 1, last, 281474959933439},
	} {
		checkOf(t, c.u, c.v, c.name, api.OK)
		checkOf(t, c.v, c.u, c.name, api.OK)
	}
}

// P3.1
func TestOfIsTheLesserOneTimesHalfAndTheGreaterOne(t *testing.T) {
	for _, u := range vertices() {
		for _, v := range vertices() {
			if u < v {
				checkOf(t, u, v, uint64(u)*half+uint64(v), api.OK)
				checkOf(t, v, u, uint64(u)*half+uint64(v), api.OK)
			}
		}
	}
}

// P3.1
func TestOfOneVertexIsALoop(t *testing.T) {
	for _, v := range vertices() {
		checkOf(t, v, v, 0, api.ErrLoop)
	}
}

// P3.1: also where both are one that is no vertex.
func TestOfWhatIsNoVertex(t *testing.T) {
	for _, u := range noVertices() {
		for _, v := range vertices() {
			checkOf(t, u, v, 0, api.ErrArg)
			checkOf(t, v, u, 0, api.ErrArg)
		}
		for _, v := range noVertices() {
			checkOf(t, u, v, 0, api.ErrArg)
		}
	}
}

// P3.1
func TestEndsByHand(t *testing.T) {
	checkEnds(t, 50331653, 3, 5, true)
	checkEnds(t, 1, 0, 1, true)
	checkEnds(t, 16777215, 0, last, true)
	checkEnds(t, 16777218, 1, 2, true)
	checkEnds(t, 33554431, 1, last, true)
	checkEnds(t, 281474959933439, last-1, last, true)
}

// P3.1: both ends alike, or the greater one ahead, or an end too great.
func TestEndsOfWhatIsNoName(t *testing.T) {
	for _, name := range []uint64{0, half, half + 1, 2*half + 1, 3*half + 2, last * half, 281474959933440, 1<<48 - 1, 1 << 48, 1<<48 + 1, 1<<48 | 5, math.MaxInt64, 1 << 63, 1<<63 | 1, 1<<63 | last, math.MaxUint64} {
		checkEnds(t, name, 0, 0, false)
	}
	for _, v := range vertices() {
		for _, u := range vertices() {
			if u >= v {
				checkEnds(t, uint64(u)*half+uint64(v), 0, 0, false)
			}
		}
	}
}

// P3.1: a name is none with a bit more above the 48 that names have.
func TestEndsLookAtAllBits(t *testing.T) {
	for bit := 48; bit < 64; bit++ {
		for _, name := range []uint64{1, 3*half + 5, 16777215, 281474959933439} {
			checkEnds(t, name|1<<bit, 0, 0, false)
		}
	}
}

// P3.3
func TestNamesGoWithEnds(t *testing.T) {
	for _, u := range vertices() {
		for _, v := range vertices() {
			if u == v {
				continue
			}
			n, err := Of(u, v)
			if err != api.OK {
				t.Errorf("Of(%d, %d): %d", u, v, err)
			}
			checkEnds(t, n, min(u, v), max(u, v), true)
		}
	}
}

// P3.3: of numbers of all kinds those that are names are the names of their ends.
func TestEndsGoWithNames(t *testing.T) {
	many := 0
	for i, word := range spread.Words(3000) {
		// Fewer bits have more names among them.
		n := word >> (i % 40)
		if u, v, ok := Ends(n); ok {
			checkOf(t, u, v, n, api.OK)
			many++
		}
	}
	if many < 300 || many > 2700 {
		t.Errorf("%d names", many)
	}
}

// P3.1: of small ends each number is a name just if it is that of two of them.
func TestEndsOfAllSmallNames(t *testing.T) {
	names := map[uint64][2]int{}
	for u := range 20 {
		for v := u + 1; v < 40; v++ {
			names[uint64(u)*half+uint64(v)] = [2]int{u, v}
		}
	}
	for u := range uint64(20) {
		for v := range uint64(40) {
			ends, there := names[u*half+v]
			checkEnds(t, u*half+v, ends[0], ends[1], there)
		}
	}
}

// P3.2
func TestLessByHand(t *testing.T) {
	for _, c := range []struct {
		a, b api.Edge
		want bool
	}{
		{api.Edge{U: 1, V: 2}, api.Edge{U: 1, V: 3}, true},
		{api.Edge{U: 1, V: 3}, api.Edge{U: 1, V: 2}, false},
		{api.Edge{U: 1, V: 9}, api.Edge{U: 2, V: 3}, true},
		{api.Edge{U: 2, V: 3}, api.Edge{U: 1, V: 9}, false},
		{api.Edge{U: 1, V: 2}, api.Edge{U: 2, V: 3}, true},
		{api.Edge{U: 2, V: 3}, api.Edge{U: 1, V: 2}, false},
		{api.Edge{U: 1, V: 2}, api.Edge{U: 1, V: 2}, false},
		{api.Edge{}, api.Edge{}, false},
		{api.Edge{U: -1}, api.Edge{}, true},
		{api.Edge{V: -1}, api.Edge{}, true},
		{api.Edge{}, api.Edge{V: -1}, false},
		{api.Edge{U: math.MinInt}, api.Edge{U: math.MaxInt}, true},
		{api.Edge{U: math.MaxInt}, api.Edge{U: math.MinInt}, false},
		{api.Edge{V: math.MinInt}, api.Edge{V: math.MaxInt}, true},
		{api.Edge{V: math.MaxInt}, api.Edge{V: math.MinInt}, false},
	} {
		if Less(c.a, c.b) != c.want {
			t.Errorf("Less(%v, %v): not %v", c.a, c.b, c.want)
		}
	}
}

// P3.2: the Tier says nothing, nor which end is the lesser one.
func TestLessLooksAtUAndVAsTheyStand(t *testing.T) {
	a, b := api.Edge{U: 1, V: 2, Tier: 1}, api.Edge{U: 1, V: 2, Tier: 5}
	if Less(a, b) || Less(b, a) {
		t.Error("Less looks at Tiers")
	}
	a, b = api.Edge{U: 1, V: 2, Tier: 9}, api.Edge{U: 1, V: 3}
	if !Less(a, b) || Less(b, a) {
		t.Error("Less looks at Tiers ahead of V")
	}
	a, b = api.Edge{U: 9, V: 1}, api.Edge{U: 2, V: 3}
	if Less(a, b) || !Less(b, a) {
		t.Error("Less turns ends")
	}
}

// P3.3
func TestTheOrderOfEdgesIsThatOfTheirNames(t *testing.T) {
	var list []api.Edge
	for _, u := range vertices() {
		for _, v := range vertices() {
			if u < v {
				list = append(list, api.Edge{U: u, V: v})
			}
		}
	}
	for _, a := range list {
		for _, b := range list {
			n, _ := Of(a.U, a.V)
			m, _ := Of(b.U, b.V)
			if Less(a, b) != (n < m) {
				t.Errorf("Less(%v, %v): %v, names %d and %d", a, b, Less(a, b), n, m)
			}
		}
	}
}

// P3.2
func TestSortByHand(t *testing.T) {
	l := []api.Edge{{U: 2, V: 3}, {U: 1, V: 2, Tier: 7}, {U: 0, V: 5}, {U: 1, V: 2, Tier: 4}, {U: 9, V: 0}, {U: -1, V: 4}, {U: 0, V: 3}, {U: 1, V: 2, Tier: 7}, {U: 1, V: -2}}
	want := []api.Edge{{U: -1, V: 4}, {U: 0, V: 3}, {U: 0, V: 5}, {U: 1, V: -2}, {U: 1, V: 2, Tier: 7}, {U: 1, V: 2, Tier: 4}, {U: 1, V: 2, Tier: 7}, {U: 2, V: 3}, {U: 9, V: 0}}
	if got := Sort(l); !slices.Equal(got, want) {
		t.Errorf("Sort: %v", got)
	}
}

// P3.2
func TestSortOfFew(t *testing.T) {
	if got := Sort(nil); len(got) != 0 {
		t.Errorf("Sort of nil: %v", got)
	}
	if got := Sort([]api.Edge{}); len(got) != 0 {
		t.Errorf("Sort of none: %v", got)
	}
	one := []api.Edge{{U: 5, V: 3, Tier: 2}}
	if got := Sort(one); !slices.Equal(got, one) {
		t.Errorf("Sort of one: %v", got)
	}
}

// mixed are so many edges, by the Tier at their places, among few ends, so that many are alike.
func mixed(many, ends int) []api.Edge {
	list := make([]api.Edge, many)
	for i, word := range spread.Words(many) {
		list[i] = api.Edge{U: int(word>>8) % ends, V: int(word>>32) % ends, Tier: i}
	}
	return list
}

// sorted: what l is in order, put in one by one, each behind those that it is not less than.
func sorted(l []api.Edge) []api.Edge {
	var list []api.Edge
	for _, e := range l {
		at := len(list)
		for at > 0 && (e.U < list[at-1].U || e.U == list[at-1].U && e.V < list[at-1].V) {
			at--
		}
		list = slices.Insert(list, at, e)
	}
	return list
}

// P3.2: of many edges, too, those with the same ends stay as they stood.
func TestSortLeavesThoseOfTheSameEndsAsTheyStood(t *testing.T) {
	for _, many := range []int{2, 3, 10, 13, 50, 400} {
		for _, ends := range []int{1, 2, 3, 20} {
			l := mixed(many, ends)
			if got := Sort(l); !slices.Equal(got, sorted(l)) {
				t.Errorf("Sort of %d edges among %d ends: %v", many, ends, got)
			}
		}
	}
}

// P3.2
func TestSortOfWhatIsInOrder(t *testing.T) {
	l := sorted(mixed(100, 5))
	if got := Sort(l); !slices.Equal(got, l) {
		t.Errorf("Sort: %v", got)
	}
	// The Tiers are out of order at the same ends: they don't matter.
	turned := slices.Clone(l)
	slices.Reverse(turned)
	if got := Sort(turned); !slices.Equal(got, sorted(turned)) || slices.Equal(got, l) {
		t.Errorf("Sort of the turned: %v", got)
	}
}

// R1: what is handed in stays as it was, and what was answered is not written into later.
func TestSortLeavesItsList(t *testing.T) {
	l := mixed(60, 4)
	first := Sort(l)
	kept := slices.Clone(first)
	if !slices.Equal(l, mixed(60, 4)) {
		t.Errorf("Sort changed its list: %v", l)
	}
	Sort(first)
	again := Sort(l)
	again[0].U = -1
	if !slices.Equal(first, kept) || !slices.Equal(l, mixed(60, 4)) {
		t.Errorf("an answer was changed: %v", first)
	}
}

// R1: memory behind a list is not written into.
func TestSortLeavesWhatIsBehindItsList(t *testing.T) {
	l := mixed(20, 4)
	Sort(l[:10])
	if !slices.Equal(l, mixed(20, 4)) {
		t.Errorf("Sort changed what is there: %v", l)
	}
}

// P3.2
func TestFindByHand(t *testing.T) {
	l := []api.Edge{{U: 1, V: 2, Tier: 1}, {U: 0, V: 5}, {U: 3, V: 1}, {U: 2, V: 9, Tier: 4}}
	checkFind(t, l, 1, 2, 0, true)
	checkFind(t, l, 2, 1, 0, true)
	checkFind(t, l, 0, 5, 1, true)
	checkFind(t, l, 5, 0, 1, true)
	checkFind(t, l, 1, 3, 2, true)
	checkFind(t, l, 3, 1, 2, true)
	checkFind(t, l, 2, 9, 3, true)
	checkFind(t, l, 9, 2, 3, true)
}

// P3.2: an edge that has one of the ends, or one of them twice, is not it.
func TestFindOfWhatIsNotThere(t *testing.T) {
	l := []api.Edge{{U: 1, V: 2}, {U: 2, V: 3}, {U: 4, V: 4}}
	for _, ends := range [][2]int{{1, 3}, {1, 1}, {2, 2}, {3, 3}, {2, 4}, {4, 5}, {4, 0}, {0, 0}, {-1, 2}, {1, math.MaxInt}, {1, 2 + 1<<32}, {1, 2 + half}} {
		checkFind(t, l, ends[0], ends[1], 0, false)
		checkFind(t, l, ends[1], ends[0], 0, false)
	}
	checkFind(t, nil, 0, 0, 0, false)
	checkFind(t, []api.Edge{}, 1, 2, 0, false)
}

// P3.2: in whichever order the ends stand at either place.
func TestFindIsTheFirstPlace(t *testing.T) {
	l := []api.Edge{{U: 7, V: 8}, {U: 2, V: 1, Tier: 3}, {U: 1, V: 2}, {U: 8, V: 7}, {U: 2, V: 1}}
	checkFind(t, l, 1, 2, 1, true)
	checkFind(t, l, 2, 1, 1, true)
	checkFind(t, l[2:], 1, 2, 0, true)
	checkFind(t, l[2:], 2, 1, 0, true)
	checkFind(t, l, 8, 7, 0, true)
	checkFind(t, l[1:], 7, 8, 2, true)
}

// P3.2: ends that have no name are found as numbers.
func TestFindOfEndsThatHaveNoName(t *testing.T) {
	l := []api.Edge{{U: 4, V: 4}, {U: -3, V: 2}, {U: half, V: 1}, {U: math.MaxInt, V: math.MinInt}, {U: -1, V: -1}}
	for i, e := range l {
		checkFind(t, l, e.U, e.V, i, true)
		checkFind(t, l, e.V, e.U, i, true)
	}
}

// P3.2: no order of the list is asked for.
func TestFindInListsOfAllOrders(t *testing.T) {
	l := mixed(200, 9)
	for u := -1; u <= 9; u++ {
		for v := -1; v <= 9; v++ {
			place := slices.IndexFunc(l, func(e api.Edge) bool {
				return min(e.U, e.V) == min(u, v) && max(e.U, e.V) == max(u, v)
			})
			checkFind(t, l, u, v, max(place, 0), place >= 0)
		}
	}
	if !slices.Equal(l, mixed(200, 9)) {
		t.Error("Find changed its list")
	}
}
