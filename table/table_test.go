package table

import (
	"math"
	"slices"
	"testing"

	"raftsman/api"
	"raftsman/spread"
)

// maxN and maxL are written in digits, so that a wrong api.MaxN or api.MaxL would be told, too.
const (
	maxN = 1024
	maxL = 16
)

// tiers has of edges, by their lesser ends and then by their greater ones, the Tiers.
type tiers map[[2]int]int

// of are the tiers of a table.
func of(l []api.Edge) tiers {
	m := tiers{}
	for _, e := range l {
		m[[2]int{e.U, e.V}] = e.Tier
	}
	return m
}

// list asks for the edge of each two vertices.
func (m tiers) list(n int) []api.Edge {
	var l []api.Edge
	for u := range n {
		for v := u + 1; v < n; v++ {
			if tier, there := m[[2]int{u, v}]; there {
				l = append(l, api.Edge{U: u, V: v, Tier: tier})
			}
		}
	}
	return l
}

// near asks of each vertex.
func (m tiers) near(n, v int) []int {
	var list []int
	for u := range n {
		_, above := m[[2]int{v, u}]
		_, below := m[[2]int{u, v}]
		if above || below {
			list = append(list, u)
		}
	}
	return list
}

// put is the table with another edge, or with another Tier.
func put(n int, l []api.Edge, u, v, tier int) []api.Edge {
	m := of(l)
	m[[2]int{min(u, v), max(u, v)}] = tier
	return m.list(n)
}

// drop is the table without an edge.
func drop(n int, l []api.Edge, u, v int) []api.Edge {
	m := of(l)
	delete(m, [2]int{min(u, v), max(u, v)})
	return m.list(n)
}

// isTable is the chapter's sentence, of each two edges.
func isTable(n int, l []api.Edge) bool {
	for i, e := range l {
		if e.U < 0 || e.V <= e.U || n <= e.V || e.Tier < 0 || maxL < e.Tier {
			return false
		}
		for _, other := range l[:i] {
			if slices.Compare([]int{other.U, other.V}, []int{e.U, e.V}) >= 0 {
				return false
			}
		}
	}
	return 0 <= n && n <= maxN
}

// isPlace: is v one of n vertices?
func isPlace(n, v int) bool { return v >= 0 && v <= n-1 }

func checkAsItWas(t *testing.T, l, kept []api.Edge) {
	t.Helper()
	if !spread.AsItWas(l, kept) {
		t.Errorf("the edges became %v, they were %v", l, kept)
	}
}

func checkRight(t *testing.T, n int, kept []api.Edge, want bool) {
	t.Helper()
	l := spread.Loose(kept)
	if got := Right(n, l); got != want {
		t.Errorf("Right(%d, %v): %v", n, kept, got)
	}
	checkAsItWas(t, l, kept)
}

func checkAdd(t *testing.T, n int, kept []api.Edge, u, v int, want []api.Edge, err api.Errno) []api.Edge {
	t.Helper()
	l := spread.Loose(kept)
	m, e := Add(n, l, u, v)
	if e != err || !slices.Equal(m, want) {
		t.Errorf("Add(%d, %v, %d, %d): %v, %d, want %v, %d", n, kept, u, v, m, e, want, err)
	}
	checkAsItWas(t, l, kept)
	return m
}

func checkRemove(t *testing.T, n int, kept []api.Edge, u, v int, want []api.Edge, err api.Errno) []api.Edge {
	t.Helper()
	l := spread.Loose(kept)
	m, e := Remove(n, l, u, v)
	if e != err || !slices.Equal(m, want) {
		t.Errorf("Remove(%d, %v, %d, %d): %v, %d, want %v, %d", n, kept, u, v, m, e, want, err)
	}
	checkAsItWas(t, l, kept)
	return m
}

func checkSet(t *testing.T, n int, kept []api.Edge, u, v, tier int, want []api.Edge, err api.Errno) []api.Edge {
	t.Helper()
	l := spread.Loose(kept)
	m, e := Set(n, l, u, v, tier)
	if e != err || !slices.Equal(m, want) {
		t.Errorf("Set(%d, %v, %d, %d, %d): %v, %d, want %v, %d", n, kept, u, v, tier, m, e, want, err)
	}
	checkAsItWas(t, l, kept)
	return m
}

func checkNear(t *testing.T, n int, kept []api.Edge, v int, want []int) {
	t.Helper()
	l := spread.Loose(kept)
	if got := Near(n, l, v); !slices.Equal(got, want) {
		t.Errorf("Near(%d, %v, %d): %v, want %v", n, kept, v, got, want)
	}
	checkAsItWas(t, l, kept)
}

func checkForest(t *testing.T, n int, kept []api.Edge, tier int, want []api.Edge) {
	t.Helper()
	l := spread.Loose(kept)
	if got := Forest(n, l, tier); !slices.Equal(got, want) {
		t.Errorf("Forest(%d, %v, %d): %v, want %v", n, kept, tier, got, want)
	}
	checkAsItWas(t, l, kept)
}

// allTiers are the tiers that an edge may have, in digits.
func allTiers() []int {
	return []int{0, 1, 2, 3, 4, 5, 6, 7, 8, 9, 10, 11, 12, 13, 14, 15, 16}
}

// wrongTiers are tiers that no edge may have.
func wrongTiers() []int {
	return []int{-1, -2, -16, math.MinInt32, math.MinInt, 17, 18, 32, 256, 1 << 16, 1 << 32, 1<<32 + 1, 1<<32 + 16, math.MaxInt}
}

// forest goes through the edges tier by tier.
func forest(l []api.Edge, tier int) []api.Edge {
	var list []api.Edge
	for _, e := range l {
		for some := 1; some <= min(tier, maxL); some++ {
			if e.Tier == some {
				list = append(list, e)
			}
		}
	}
	return list
}

// checkForests asks for the forest of each tier, and of what is no tier.
func checkForests(t *testing.T, n int, l []api.Edge) {
	t.Helper()
	for _, tier := range slices.Concat(allTiers(), wrongTiers()) {
		checkForest(t, n, l, tier, forest(l, tier))
	}
}

// checkPair asks of a table all that may be asked of two vertices, in this order.
func checkPair(t *testing.T, n int, l []api.Edge, u, v int) {
	t.Helper()
	tier, there := of(l)[[2]int{min(u, v), max(u, v)}]
	switch {
	case u == v:
		checkAdd(t, n, l, u, v, l, api.ErrLoop)
	case there:
		checkAdd(t, n, l, u, v, l, api.ErrThere)
	default:
		checkAdd(t, n, l, u, v, put(n, l, u, v, 0), api.OK)
	}
	for _, wrong := range []int{-1, maxL + 1} {
		checkSet(t, n, l, u, v, wrong, l, api.ErrArg)
	}
	for _, other := range []int{0, 1, maxL, tier} {
		if there {
			checkSet(t, n, l, u, v, other, put(n, l, u, v, other), api.OK)
		} else {
			checkSet(t, n, l, u, v, other, l, api.ErrEdge)
		}
	}
	if there {
		checkRemove(t, n, l, u, v, drop(n, l, u, v), api.OK)
	} else {
		checkRemove(t, n, l, u, v, l, api.ErrEdge)
	}
}

// checkNoPair asks where there is no table, or where u or v is no vertex.
func checkNoPair(t *testing.T, n int, l []api.Edge, u, v int) {
	t.Helper()
	checkAdd(t, n, l, u, v, l, api.ErrArg)
	checkRemove(t, n, l, u, v, l, api.ErrArg)
	for _, tier := range []int{0, 5, maxL, maxL + 1} {
		checkSet(t, n, l, u, v, tier, l, api.ErrArg)
	}
}

// checkTable asks of a table all that may be asked of it, of each two vertices, and beside them.
func checkTable(t *testing.T, n int, l []api.Edge) {
	t.Helper()
	checkRight(t, n, l, true)
	checkForests(t, n, l)
	for u := range n {
		checkNear(t, n, l, u, of(l).near(n, u))
		for v := range n {
			checkPair(t, n, l, u, v)
		}
	}
	for _, v := range spread.Beside(n) {
		checkNear(t, n, l, v, nil)
		for _, u := range []int{0, n - 1, v, v + 1} {
			checkNoPair(t, n, l, u, v)
			checkNoPair(t, n, l, v, u)
		}
	}
}

// checkNoTable asks of what is none, at these vertices, at the ends of its first edges, and beside them.
func checkNoTable(t *testing.T, n int, l []api.Edge, vertices ...int) {
	t.Helper()
	checkRight(t, n, l, false)
	for _, tier := range []int{-1, 0, 1, 5, maxL, maxL + 1} {
		checkForest(t, n, l, tier, nil)
	}
	for _, v := range vertices {
		checkNear(t, n, l, v, nil)
		checkNoPair(t, n, l, v, v)
		checkNoPair(t, n, l, 0, v)
		checkNoPair(t, n, l, v, 1)
	}
	for _, e := range l[:min(len(l), 3)] {
		checkNear(t, n, l, e.U, nil)
		checkNear(t, n, l, e.V, nil)
		checkNoPair(t, n, l, e.U, e.V)
		checkNoPair(t, n, l, e.V, e.U)
	}
}

// checkEdges asks of edges that may be a table, or not.
func checkEdges(t *testing.T, n int, l []api.Edge) {
	t.Helper()
	if isTable(n, l) {
		checkTable(t, n, l)
	} else {
		checkNoTable(t, n, l, n)
	}
}

// complete are all edges of n vertices, their Tiers in turn.
func complete(n int) []api.Edge {
	var l []api.Edge
	for u := range n {
		for v := u + 1; v < n; v++ {
			l = append(l, api.Edge{U: u, V: v, Tier: len(l) % (maxL + 1)})
		}
	}
	return l
}

// sparse are those of all edges that words choose, one of so many.
func sparse(n, one int) []api.Edge {
	l := complete(n)
	words := spread.Words(len(l))
	var some []api.Edge
	for i, e := range l {
		if words[i]>>30%uint64(one) == 0 {
			some = append(some, e)
		}
	}
	return some
}

// P12.2: the chapter's example.
func TestExample(t *testing.T) {
	checkNear(t, 5, []api.Edge{{U: 0, V: 1}, {U: 1, V: 4}}, 1, []int{0, 4})
}

// hand is a table of 6 vertices.
func hand() []api.Edge {
	return []api.Edge{{U: 0, V: 5, Tier: 16}, {U: 1, V: 2}, {U: 1, V: 4, Tier: 1}, {U: 2, V: 4, Tier: 3}, {U: 4, V: 5, Tier: 2}}
}

// P12.1, P12.2
func TestByHand(t *testing.T) {
	l := hand()
	checkTable(t, 6, l)
	checkTable(t, 7, l)
	checkNoTable(t, 5, l, 0, 4, 5)
	checkRight(t, 6, l, true)
	checkNear(t, 6, l, 4, []int{1, 2, 5})
	checkNear(t, 6, l, 5, []int{0, 4})
	checkNear(t, 6, l, 0, []int{5})
	checkNear(t, 6, l, 3, nil)
	checkNear(t, 6, l, 6, nil)
	checkNear(t, 6, l, -1, nil)
	checkForest(t, 6, l, 0, nil)
	checkForest(t, 6, l, 1, l[2:3])
	checkForest(t, 6, l, 2, []api.Edge{l[2], l[4]})
	checkForest(t, 6, l, 3, l[2:])
	checkForest(t, 6, l, 15, l[2:])
	checkForest(t, 6, l, 16, []api.Edge{l[0], l[2], l[3], l[4]})
	checkForest(t, 6, l, 17, []api.Edge{l[0], l[2], l[3], l[4]})
	checkAdd(t, 6, l, 3, 2, []api.Edge{l[0], l[1], l[2], {U: 2, V: 3}, l[3], l[4]}, api.OK)
	checkAdd(t, 6, l, 4, 2, l, api.ErrThere)
	checkAdd(t, 6, l, 4, 4, l, api.ErrLoop)
	checkAdd(t, 6, l, 6, 6, l, api.ErrArg)
	checkAdd(t, 6, l, 0, 6, l, api.ErrArg)
	checkAdd(t, 6, l, -1, 0, l, api.ErrArg)
	checkRemove(t, 6, l, 5, 0, l[1:], api.OK)
	checkRemove(t, 6, l, 4, 5, l[:4], api.OK)
	checkRemove(t, 6, l, 2, 3, l, api.ErrEdge)
	checkRemove(t, 6, l, 3, 3, l, api.ErrEdge)
	checkRemove(t, 6, l, 6, 3, l, api.ErrArg)
	checkSet(t, 6, l, 2, 1, 7, []api.Edge{l[0], {U: 1, V: 2, Tier: 7}, l[2], l[3], l[4]}, api.OK)
	checkSet(t, 6, l, 5, 4, 0, append(slices.Clone(l[:4]), api.Edge{U: 4, V: 5}), api.OK)
	checkSet(t, 6, l, 3, 1, 7, l, api.ErrEdge)
	checkSet(t, 6, l, 1, 1, 7, l, api.ErrEdge)
	checkSet(t, 6, l, 1, 2, 17, l, api.ErrArg)
	checkSet(t, 6, l, 3, 1, -1, l, api.ErrArg)
}

// P12.1: an edge ahead of all others, between each two, and behind all.
func TestWhereAnEdgeBelongs(t *testing.T) {
	l := []api.Edge{{U: 1, V: 2, Tier: 5}, {U: 1, V: 6, Tier: 6}, {U: 3, V: 4, Tier: 7}, {U: 5, V: 6, Tier: 8}}
	for _, c := range []struct{ u, v, at int }{
		{0, 1, 0}, {0, 7, 0}, {0, 2, 0},
		{1, 3, 1}, {1, 5, 1},
		{1, 7, 2}, {2, 3, 2}, {2, 7, 2},
		{3, 5, 3}, {3, 7, 3}, {4, 5, 3}, {4, 7, 3},
		{5, 7, 4}, {6, 7, 4},
	} {
		want := slices.Insert(slices.Clone(l), c.at, api.Edge{U: c.u, V: c.v})
		checkAdd(t, 8, l, c.u, c.v, want, api.OK)
		checkAdd(t, 8, l, c.v, c.u, want, api.OK)
		checkRemove(t, 8, want, c.u, c.v, l, api.OK)
		checkRemove(t, 8, want, c.v, c.u, l, api.OK)
	}
}

// P12.1, P12.2: no vertices, and one.
func TestFewVertices(t *testing.T) {
	for _, l := range [][]api.Edge{nil, {}} {
		for n := range 4 {
			checkTable(t, n, l)
		}
		checkAdd(t, 0, l, 0, 0, nil, api.ErrArg)
		checkAdd(t, 1, l, 0, 0, nil, api.ErrLoop)
		checkAdd(t, 1, l, 0, 1, nil, api.ErrArg)
		checkRemove(t, 1, l, 0, 0, nil, api.ErrEdge)
		checkSet(t, 1, l, 0, 0, 16, nil, api.ErrEdge)
		checkSet(t, 1, l, 0, 0, 17, nil, api.ErrArg)
		checkAdd(t, 2, l, 1, 0, []api.Edge{{U: 0, V: 1}}, api.OK)
	}
	for n := range 2 {
		for _, l := range [][]api.Edge{{{}}, {{U: 0, V: 1}}, {{U: -1, V: 0}}, {{U: -2, V: -1}}, {{U: 1, V: 0}}} {
			checkNoTable(t, n, l, -1, 0, 1)
		}
	}
}

// P12.1, P12.2: how many vertices there may be.
func TestSizes(t *testing.T) {
	for _, n := range []int{maxN - 1, maxN} {
		for _, l := range [][]api.Edge{nil, {{U: 0, V: n - 1, Tier: 3}}, {{U: n - 2, V: n - 1}}, spread.Path(n)} {
			checkRight(t, n, l, true)
			checkForests(t, n, l)
			for _, v := range []int{0, 1, n - 2, n - 1} {
				checkNear(t, n, l, v, of(l).near(n, v))
				checkPair(t, n, l, v, n-1)
				checkPair(t, n, l, 0, v)
			}
			checkNear(t, n, l, n, nil)
			checkNoPair(t, n, l, n, n)
			checkNoPair(t, n, l, 0, n)
			checkNoPair(t, n, l, n, n-1)
		}
	}
	for _, n := range spread.WrongSizes() {
		for _, l := range [][]api.Edge{nil, {}, {{U: 0, V: 1, Tier: 1}}, {{U: 0, V: maxN - 1}}, {{U: -2, V: -1}}, spread.Path(maxN)} {
			checkNoTable(t, n, l, -1, 0, 1, maxN-1, maxN, n-1, n)
		}
	}
}

// P12.1, P12.2: a table of n vertices is one of more, but not of fewer than its ends need.
func TestTablesOfMoreVertices(t *testing.T) {
	for n := 2; n < 40; n++ {
		l := []api.Edge{{U: 0, V: 1, Tier: 2}, {U: n - 2, V: n - 1, Tier: 3}}[min(1, max(3-n, 0)):]
		for m := range 2 * n {
			checkRight(t, m, l, m >= n)
		}
		checkRight(t, maxN, l, true)
		checkRight(t, maxN+1, l, false)
	}
}

// P12.1, P12.2: an edge that is wrong in one thing, ahead of others, between and behind them.
func TestWrongEdges(t *testing.T) {
	for _, n := range []int{2, 3, 5, maxN} {
		wrong := []api.Edge{{U: -1, V: n - 1}, {U: -1, V: 0}, {U: 0, V: 0}, {U: n - 1, V: n - 1}, {U: n - 1, V: 0}, {U: 0, V: n}, {U: n - 1, V: n}, {U: n, V: n + 1}}
		for _, v := range spread.Beside(n) {
			wrong = append(wrong, api.Edge{U: v, V: n - 1}, api.Edge{U: 0, V: v}, api.Edge{U: v, V: 0}, api.Edge{U: v, V: v})
		}
		for _, tier := range wrongTiers() {
			wrong = append(wrong, api.Edge{U: 0, V: n - 1, Tier: tier})
		}
		path := spread.Path(n)[:min(n-1, 5)]
		for _, e := range wrong {
			for at := range len(path) + 1 {
				checkNoTable(t, n, slices.Insert(slices.Clone(path), at, e), 0, n-1, e.U, e.V)
			}
			checkNoTable(t, n, []api.Edge{e}, 0, n-1, e.U, e.V)
		}
	}
}

// P12.1, P12.2: each edge of a table in turn made wrong.
func TestEdgesMadeWrong(t *testing.T) {
	l := sparse(8, 3)
	for i := range l {
		for _, tier := range allTiers() {
			m := slices.Clone(l)
			m[i].Tier = tier
			checkRight(t, 8, m, true)
		}
		for _, tier := range wrongTiers() {
			m := slices.Clone(l)
			m[i].Tier = tier
			checkNoTable(t, 8, m, l[i].U)
		}
		for _, e := range []api.Edge{{U: -1, V: l[i].V}, {U: l[i].V, V: l[i].U}, {U: l[i].U, V: l[i].U}, {U: l[i].V, V: l[i].V}, {U: l[i].U, V: 8}} {
			m := slices.Clone(l)
			m[i] = e
			checkNoTable(t, 8, m, l[i].U)
		}
	}
}

// P12.1, P12.2: all orders of four edges, of which one is theirs.
func TestEdgesOutOfOrder(t *testing.T) {
	l := []api.Edge{{U: 0, V: 3}, {U: 1, V: 2, Tier: 1}, {U: 1, V: 3}, {U: 2, V: 3, Tier: 4}}
	for _, places := range spread.Lists(4, 0, 3) {
		m := make([]api.Edge, 4)
		for i, at := range places {
			m[i] = l[at]
		}
		if slices.Equal(places, []int{0, 1, 2, 3}) {
			checkTable(t, 4, m)
		} else {
			checkNoTable(t, 4, m, 0, 1, 2, 3)
		}
	}
	path := spread.Path(maxN)
	for _, i := range []int{0, 1, 500, maxN - 3} {
		m := slices.Clone(path)
		m[i], m[i+1] = m[i+1], m[i]
		checkNoTable(t, maxN, m, 0, maxN-1)
	}
	checkNoTable(t, maxN, spread.Turned(path), 0, maxN-1)
}

// P12.1, P12.2: two edges with the same ends, with like Tiers and with unlike ones, beside one another or not.
func TestEdgesThatStandTwice(t *testing.T) {
	for i, e := range hand() {
		for _, tier := range allTiers() {
			twin := api.Edge{U: e.U, V: e.V, Tier: tier}
			for at := range len(hand()) + 1 {
				checkNoTable(t, 6, slices.Insert(hand(), at, twin), 0, 1)
			}
			checkNoTable(t, 6, []api.Edge{e, twin}, 0, 1)
			checkNoTable(t, 6, []api.Edge{twin, e}, 0, 1)
			other := hand()
			other[i] = twin
			checkRight(t, 6, other, true)
		}
		checkNoTable(t, 6, []api.Edge{e, {U: e.V, V: e.U, Tier: e.Tier}}, 0, 1)
		checkNoTable(t, 6, []api.Edge{{U: e.V, V: e.U, Tier: e.Tier}, e}, 0, 1)
	}
}

// P12.1, P12.2: all lists of up to two edges, with ends beside the vertices, too, and up to three of fewer kinds.
func TestAllShortLists(t *testing.T) {
	for n := range 4 {
		for many := range 3 {
			checkLists(t, n, many, -1, n, []int{-1, maxL, maxL + 1})
		}
		checkLists(t, n, 3, 0, n-1, []int{0, 2})
	}
}

// checkLists asks of all lists of so many edges, with ends from first to last, and with these Tiers.
func checkLists(t *testing.T, n, many, first, last int, tiers []int) {
	t.Helper()
	var edges []api.Edge
	for _, ends := range spread.Lists(2, first, last) {
		for _, tier := range tiers {
			edges = append(edges, api.Edge{U: ends[0], V: ends[1], Tier: tier})
		}
	}
	for _, places := range spread.Lists(many, 0, len(edges)-1) {
		l := make([]api.Edge, many)
		for i, at := range places {
			l[i] = edges[at]
		}
		checkEdges(t, n, l)
	}
}

// P12.1, P12.2: all graphs of up to five vertices, and each of them the other way round.
func TestAllSmallGraphs(t *testing.T) {
	for n := range 6 {
		for _, l := range spread.Graphs(n) {
			checkTable(t, n, l)
			if len(l) > 0 {
				checkNoTable(t, n, spread.Turned(l), 0, n-1)
			}
		}
	}
}

// P12.1, P12.2
func TestBigTables(t *testing.T) {
	for _, n := range []int{12, 25} {
		for _, one := range []int{1, 2, 5, 40} {
			checkTable(t, n, sparse(n, one))
		}
	}
}

// verticesOf are all of n vertices.
func verticesOf(n int) []int {
	list := make([]int, n)
	for v := range list {
		list[v] = v
	}
	return list
}

// P12.1, P12.2: as many edges as there may be.
func TestAllEdges(t *testing.T) {
	l := complete(maxN)
	checkRight(t, maxN, l, true)
	checkRight(t, maxN-1, l, false)
	for _, tier := range []int{-1, 0, 1, 8, maxL, maxL + 1} {
		checkForest(t, maxN, l, tier, forest(l, tier))
	}
	for _, at := range []int{0, 1, 70000, len(l) - 1} {
		u, v := l[at].U, l[at].V
		checkNear(t, maxN, l, u, slices.Delete(verticesOf(maxN), u, u+1))
		checkAdd(t, maxN, l, v, u, l, api.ErrThere)
		less := checkRemove(t, maxN, l, v, u, slices.Concat(l[:at], l[at+1:]), api.OK)
		m := slices.Clone(l)
		m[at].Tier = 0
		checkAdd(t, maxN, less, v, u, m, api.OK)
		checkRemove(t, maxN, less, u, v, less, api.ErrEdge)
		m[at].Tier = 9
		checkSet(t, maxN, l, v, u, 9, m, api.OK)
	}
	twice := slices.Insert(slices.Clone(l), 70000, l[70000])
	checkRight(t, maxN, twice, false)
	checkNear(t, maxN, twice, 0, nil)
}

// P12.1: u and v in either order, the one no vertex or both.
func TestEnds(t *testing.T) {
	for _, n := range []int{2, 6, 40} {
		for _, l := range [][]api.Edge{nil, {{U: 0, V: 1, Tier: 3}}, complete(n), sparse(n, 2)} {
			for _, u := range spread.Spots(n) {
				for _, v := range spread.Spots(n) {
					if isPlace(n, u) && isPlace(n, v) {
						checkPair(t, n, l, u, v)
					} else {
						checkNoPair(t, n, l, u, v)
					}
				}
			}
		}
	}
}

// P12.1: each tier by each other one, and what is none.
func TestTiers(t *testing.T) {
	for at, e := range hand() {
		for _, tier := range allTiers() {
			want := hand()
			want[at].Tier = tier
			l := checkSet(t, 6, hand(), e.U, e.V, tier, want, api.OK)
			checkSet(t, 6, l, e.V, e.U, e.Tier, hand(), api.OK)
			checkSet(t, 6, l, 0, 1, tier, l, api.ErrEdge)
			checkRemove(t, 6, l, e.V, e.U, drop(6, l, e.U, e.V), api.OK)
			checkForests(t, 6, l)
		}
		for _, tier := range wrongTiers() {
			checkSet(t, 6, hand(), e.U, e.V, tier, hand(), api.ErrArg)
			checkSet(t, 6, hand(), 0, 1, tier, hand(), api.ErrArg)
			checkSet(t, 6, hand(), 3, 3, tier, hand(), api.ErrArg)
		}
	}
}

// P12.3: what comes of calls, step by step, is a table, and holds what a map holds.
func TestATableStaysOne(t *testing.T) {
	for _, n := range []int{2, 3, 5, 10} {
		var l []api.Edge
		m := tiers{}
		for step, w := range spread.Words(1500) {
			u, v, tier := int(w>>8%uint64(n)), int(w>>20%uint64(n)), int(w>>32%17)
			ends := [2]int{min(u, v), max(u, v)}
			_, there := m[ends]
			switch w >> 44 % 3 {
			case 0:
				next, err := Add(n, l, u, v)
				if (err == api.OK) != (u != v && !there) {
					t.Fatalf("step %d: Add(%d, %v, %d, %d): %d", step, n, l, u, v, err)
				}
				if err == api.OK {
					m[ends] = 0
				}
				l = next
			case 1:
				next, err := Set(n, l, u, v, tier)
				if (err == api.OK) != there {
					t.Fatalf("step %d: Set(%d, %v, %d, %d, %d): %d", step, n, l, u, v, tier, err)
				}
				if there {
					m[ends] = tier
				}
				l = next
			default:
				next, err := Remove(n, l, u, v)
				if (err == api.OK) != there {
					t.Fatalf("step %d: Remove(%d, %v, %d, %d): %d", step, n, l, u, v, err)
				}
				delete(m, ends)
				l = next
			}
			if !Right(n, l) || !slices.Equal(l, m.list(n)) {
				t.Fatalf("step %d: %v, want %v", step, l, m.list(n))
			}
			checkNear(t, n, l, u, m.near(n, u))
			checkForest(t, n, l, tier, forest(l, tier))
		}
	}
}

// checkThereAndBack adds an edge that was not there, and removes it.
func checkThereAndBack(t *testing.T, n int, l []api.Edge, u, v int) {
	t.Helper()
	m, err := Add(n, l, u, v)
	if err != api.OK || len(m) != len(l)+1 || !Right(n, m) {
		t.Errorf("Add(%d, %v, %d, %d): %v, %d", n, l, u, v, m, err)
	}
	back, err := Remove(n, m, v, u)
	if err != api.OK || !slices.Equal(back, l) {
		t.Errorf("Remove(%d, %v, %d, %d): %v, %d", n, m, v, u, back, err)
	}
}

// P12.3: an edge that was not there, added and removed, leaves all as it was.
func TestAddedAndRemoved(t *testing.T) {
	for n := range 6 {
		for _, l := range spread.Graphs(n) {
			m := of(l)
			for u := range n {
				for v := range n {
					if _, there := m[[2]int{min(u, v), max(u, v)}]; u != v && !there {
						checkThereAndBack(t, n, l, u, v)
					}
				}
			}
		}
	}
	l := sparse(100, 10)
	for u := range 100 {
		for v := range u {
			if !slices.Contains(of(l).near(100, u), v) {
				checkThereAndBack(t, 100, l, u, v)
			}
		}
	}
}

// R1: tables of long ago are as they were, whatever was made of them since.
func TestWhatWasHandedInStaysAsItWas(t *testing.T) {
	var kept, copies [][]api.Edge
	var l []api.Edge
	for _, w := range spread.Words(400) {
		kept, copies = append(kept, l), append(copies, slices.Clone(l))
		u, v := int(w>>8%5), int(w>>20%5)
		switch w >> 44 % 3 {
		case 0:
			l, _ = Add(5, l, u, v)
		case 1:
			l, _ = Set(5, l, u, v, int(w>>32%17))
		default:
			l, _ = Remove(5, l, u, v)
		}
	}
	for i, l := range kept {
		if !slices.Equal(l, copies[i]) {
			t.Errorf("step %d: %v, it was %v", i, l, copies[i])
		}
	}
}

// wipe writes into all of a list, and behind it as far as it has room.
func wipe[T any](l []T, x T) {
	l = l[:cap(l)]
	for i := range l {
		l[i] = x
	}
}

// R1: what is written into an answer, or behind it, is told nowhere else.
func TestAnswersAreNewMemory(t *testing.T) {
	none := api.Edge{U: -1000, V: -1000, Tier: -1000}
	for n := range 5 {
		for _, kept := range spread.Graphs(n) {
			l := spread.Loose(kept)
			for _, tier := range allTiers() {
				wipe(Forest(n, l, tier), none)
			}
			for u := range n {
				wipe(Near(n, l, u), -1000)
				for v := range n {
					if m, err := Add(n, l, u, v); err == api.OK {
						wipe(m, none)
					}
					if m, err := Remove(n, l, u, v); err == api.OK {
						wipe(m, none)
					}
					if m, err := Set(n, l, u, v, 3); err == api.OK {
						wipe(m, none)
					}
					checkAsItWas(t, l, kept)
				}
			}
			checkRight(t, n, l, true)
		}
	}
}
