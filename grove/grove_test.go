package grove

import (
	"math"
	"slices"
	"testing"

	"raftsman/api"
	"raftsman/part"
	"raftsman/spread"
)

// maxN is written in digits, so that a wrong api.MaxN would be told, too.
const maxN = 1024

// reached are the vertices that edges lead to from v, rising: all edges are gone through till nothing new comes.
func reached(n int, l []api.Edge, v int) []int {
	there := make([]bool, n)
	there[v] = true
	for more := true; more; {
		more = false
		for _, e := range l {
			if there[e.U] != there[e.V] {
				there[e.U], there[e.V], more = true, true, true
			}
		}
	}
	var list []int
	for u, is := range there {
		if is {
			list = append(list, u)
		}
	}
	return list
}

// without is l but for the edge at a place.
func without(l []api.Edge, at int) []api.Edge { return slices.Concat(l[:at], l[at+1:]) }

// isForest is the chapter's sentence, of edges whose ends are there.
func isForest(n int, l []api.Edge) bool {
	for i, e := range l {
		if e.U == e.V || slices.Contains(reached(n, without(l, i), e.U), e.V) {
			return false
		}
	}
	return true
}

// way goes out of u by each edge in turn, and on from there with the others.
func way(l []api.Edge, u, v int) ([]api.Edge, bool) {
	if u == v {
		return nil, true
	}
	for i, e := range l {
		if e.U != u && e.V != u {
			continue
		}
		if rest, ok := way(without(l, i), e.U+e.V-u, v); ok {
			return slices.Concat([]api.Edge{e}, rest), true
		}
	}
	return nil, false
}

// spanned are the edges that those ahead of them do not connect.
func spanned(n int, l []api.Edge) []api.Edge {
	var list []api.Edge
	for i, e := range l {
		if !slices.Contains(reached(n, l[:i], e.U), e.V) {
			list = append(list, e)
		}
	}
	return list
}

// checkAsItWas looks at what was handed in, and behind it.
func checkAsItWas(t *testing.T, l, kept []api.Edge) {
	t.Helper()
	if !spread.AsItWas(l, kept) {
		t.Errorf("the edges became %v, they were %v", l[:len(l)+2], kept)
	}
}

func checkRight(t *testing.T, n int, kept []api.Edge, want bool) {
	t.Helper()
	l := spread.Loose(kept)
	if got := Right(n, l); got != want {
		t.Errorf("Right(%d, %v): %v", n, kept, got)
	}
	checkAsItWas(t, l, kept)
}

func checkPath(t *testing.T, n int, kept []api.Edge, u, v int, want []api.Edge, err api.Errno) {
	t.Helper()
	l := spread.Loose(kept)
	path, e := Path(n, l, u, v)
	if e != err || !slices.Equal(path, want) {
		t.Errorf("Path(%d, %v, %d, %d): %v, %d, want %v, %d", n, kept, u, v, path, e, want, err)
	}
	checkAsItWas(t, l, kept)
}

func checkTree(t *testing.T, n int, kept []api.Edge, v int, want []int) {
	t.Helper()
	l := spread.Loose(kept)
	if got := Tree(n, l, v); !slices.Equal(got, want) {
		t.Errorf("Tree(%d, %v, %d): %v, want %v", n, kept, v, got, want)
	}
	checkAsItWas(t, l, kept)
}

func checkGreatest(t *testing.T, kept []api.Edge, want api.Edge, there bool) {
	t.Helper()
	l := spread.Loose(kept)
	if got, ok := Greatest(l); got != want || ok != there {
		t.Errorf("Greatest(%v): %v, %v, want %v, %v", kept, got, ok, want, there)
	}
	checkAsItWas(t, l, kept)
}

func checkSpanning(t *testing.T, n int, kept, want []api.Edge, err api.Errno) {
	t.Helper()
	l := spread.Loose(kept)
	got, e := Spanning(n, l)
	if e != err || !slices.Equal(got, want) {
		t.Errorf("Spanning(%d, %v): %v, %d, want %v, %d", n, kept, got, e, want, err)
	}
	checkAsItWas(t, l, kept)
}

// checkForest asks of a forest all that may be asked of it, at each vertex, between each two, and beside them.
func checkForest(t *testing.T, n int, l []api.Edge) {
	t.Helper()
	checkRight(t, n, l, true)
	checkSpanning(t, n, l, l, api.OK)
	for u := range n {
		tree := reached(n, l, u)
		checkTree(t, n, l, u, tree)
		for v := range n {
			if want, ok := way(l, u, v); ok {
				checkPath(t, n, l, u, v, want, api.OK)
			} else {
				checkPath(t, n, l, u, v, nil, api.ErrNone)
			}
		}
	}
	for _, v := range spread.Beside(n) {
		checkTree(t, n, l, v, nil)
		checkPath(t, n, l, v, v, nil, api.ErrArg)
		checkPath(t, n, l, v, 0, nil, api.ErrArg)
		checkPath(t, n, l, n-1, v, nil, api.ErrArg)
	}
}

// checkNoForest asks of edges that are none, also where nothing is wrong, and beside them.
func checkNoForest(t *testing.T, n int, l []api.Edge) {
	t.Helper()
	checkRight(t, n, l, false)
	for _, u := range spread.Spots(min(max(n, 0), 2*maxN)) {
		checkTree(t, n, l, u, nil)
		for _, v := range []int{-1, 0, 1, u, n - 1, n} {
			checkPath(t, n, l, u, v, nil, api.ErrArg)
			checkPath(t, n, l, v, u, nil, api.ErrArg)
		}
	}
}

// checkEdges asks of edges that may be a forest, or not.
func checkEdges(t *testing.T, n int, l []api.Edge) {
	t.Helper()
	if isForest(n, l) {
		checkForest(t, n, l)
	} else {
		checkNoForest(t, n, l)
	}
	checkSpanning(t, n, l, spanned(n, l), api.OK)
}

// checkWay holds what Path answers against what makes it the path: it goes on from u, by edges of l, each once, and ends at v.
func checkWay(t *testing.T, n int, l []api.Edge, u, v int) {
	t.Helper()
	path, err := Path(n, l, u, v)
	if err != api.OK {
		t.Errorf("Path(%d, %v, %d, %d): %d", n, l, u, v, err)
	}
	at, gone := u, map[api.Edge]bool{}
	for _, e := range path {
		if e.U != at && e.V != at || gone[e] || !slices.Contains(l, e) {
			t.Fatalf("Path(%d, %v, %d, %d): %v goes wrong at %v", n, l, u, v, path, e)
		}
		gone[e] = true
		at = e.U + e.V - at
	}
	if at != v {
		t.Errorf("Path(%d, %v, %d, %d): %v ends at %d", n, l, u, v, path, at)
	}
}

// hand is a forest of 8 vertices: the tree of 0, 1, 2, 3 and 5, that of 6 and 7, and 4 alone; some have U above V, and Tiers that are none.
func hand() []api.Edge {
	return []api.Edge{{U: 0, V: 3, Tier: 1}, {U: 3, V: 1, Tier: 4}, {U: 7, V: 6, Tier: -1}, {U: 1, V: 5, Tier: 1 << 40}, {U: 2, V: 3}}
}

// P10.1: the chapter's example.
func TestExample(t *testing.T) {
	l := []api.Edge{{U: 0, V: 1}, {U: 1, V: 2}}
	checkPath(t, 3, l, 0, 2, l, api.OK)
	checkPath(t, 3, l, 2, 0, []api.Edge{{U: 1, V: 2}, {U: 0, V: 1}}, api.OK)
	checkRight(t, 3, l, true)
	checkRight(t, 2, l, false)
}

// P10.1
func TestForestByHand(t *testing.T) {
	l := hand()
	checkForest(t, 8, l)
	checkRight(t, 8, l, true)
	checkRight(t, 7, l, false)
	checkPath(t, 8, l, 5, 2, []api.Edge{l[3], l[1], l[4]}, api.OK)
	checkPath(t, 8, l, 2, 5, []api.Edge{l[4], l[1], l[3]}, api.OK)
	checkPath(t, 8, l, 0, 1, []api.Edge{l[0], l[1]}, api.OK)
	checkPath(t, 8, l, 6, 7, []api.Edge{l[2]}, api.OK)
	checkPath(t, 8, l, 7, 6, []api.Edge{l[2]}, api.OK)
	checkPath(t, 8, l, 3, 3, nil, api.OK)
	checkPath(t, 8, l, 4, 4, nil, api.OK)
	checkPath(t, 8, l, 4, 0, nil, api.ErrNone)
	checkPath(t, 8, l, 6, 0, nil, api.ErrNone)
	checkPath(t, 8, l, 8, 0, nil, api.ErrArg)
	checkPath(t, 8, l, 0, -1, nil, api.ErrArg)
	checkTree(t, 8, l, 5, []int{0, 1, 2, 3, 5})
	checkTree(t, 8, l, 7, []int{6, 7})
	checkTree(t, 8, l, 4, []int{4})
	checkTree(t, 8, l, 8, nil)
}

// P10.1, P10.2: no vertices.
func TestNoVertices(t *testing.T) {
	for _, l := range [][]api.Edge{nil, {}} {
		checkRight(t, 0, l, true)
		checkSpanning(t, 0, l, nil, api.OK)
		for _, v := range spread.Spots(0) {
			checkTree(t, 0, l, v, nil)
			checkPath(t, 0, l, v, v, nil, api.ErrArg)
			checkPath(t, 0, l, v, 0, nil, api.ErrArg)
			checkPath(t, 0, l, 0, v, nil, api.ErrArg)
		}
	}
	for _, l := range [][]api.Edge{{{}}, {{U: 0, V: 1}}, {{U: -1, V: 0}}, {{U: -2, V: -1}}} {
		checkNoForest(t, 0, l)
		checkSpanning(t, 0, l, nil, api.ErrArg)
	}
}

// P10.1, P10.2: no edges.
func TestNoEdges(t *testing.T) {
	for _, l := range [][]api.Edge{nil, {}} {
		for _, n := range []int{1, 2, 3, 40} {
			checkForest(t, n, l)
		}
		for _, n := range []int{maxN - 1, maxN} {
			checkRight(t, n, l, true)
			checkSpanning(t, n, l, nil, api.OK)
			checkTree(t, n, l, n-1, []int{n - 1})
			checkTree(t, n, l, n, nil)
			checkPath(t, n, l, n-1, n-1, nil, api.OK)
			checkPath(t, n, l, n-1, 0, nil, api.ErrNone)
			checkPath(t, n, l, n, 0, nil, api.ErrArg)
		}
	}
}

// P10.1, P10.2: how many vertices there may be.
func TestSizes(t *testing.T) {
	whole := make([]int, maxN)
	for v := range whole {
		whole[v] = v
	}
	l := spread.Path(maxN)
	checkRight(t, maxN, l, true)
	checkSpanning(t, maxN, l, l, api.OK)
	checkPath(t, maxN, l, 0, maxN-1, l, api.OK)
	checkPath(t, maxN, l, maxN-1, maxN-3, []api.Edge{l[maxN-2], l[maxN-3]}, api.OK)
	checkTree(t, maxN, l, maxN-1, whole)
	for _, n := range spread.WrongSizes() {
		for _, l := range [][]api.Edge{nil, {{U: 0, V: 1}}, {{U: -1, V: 0}}, {{U: 0, V: 1}, {U: 1, V: 0}}, spread.Path(maxN)} {
			checkNoForest(t, n, l)
			checkSpanning(t, n, l, nil, api.ErrArg)
		}
	}
	checkNoForest(t, maxN+1, spread.Path(maxN+1))
	checkSpanning(t, maxN+1, spread.Path(maxN+1), nil, api.ErrArg)
}

// P10.1, P10.2: an edge from a vertex to itself, ahead of others, between and behind them.
func TestEdgesFromAVertexToItself(t *testing.T) {
	for _, n := range []int{1, 2, 5, maxN} {
		for _, v := range []int{0, n / 2, n - 1} {
			loop := []api.Edge{{U: v, V: v}}
			checkNoForest(t, n, loop)
			checkSpanning(t, n, loop, nil, api.OK)
			path := spread.Path(n)
			for _, at := range []int{0, len(path) / 2, len(path)} {
				l := slices.Insert(slices.Clone(path), at, loop...)
				checkNoForest(t, n, l)
				checkSpanning(t, n, l, path, api.OK)
			}
		}
	}
	l := []api.Edge{{U: 1, V: 2}, {U: 4, V: 4}}
	checkNoForest(t, 5, l)
	checkSpanning(t, 5, l, l[:1], api.OK)
}

// P10.1, P10.2: an edge that stands twice, as it is, turned, or with another Tier.
func TestEdgesThatStandTwice(t *testing.T) {
	for at, e := range hand() {
		for _, twin := range []api.Edge{e, {U: e.V, V: e.U, Tier: e.Tier}, {U: e.U, V: e.V, Tier: e.Tier + 1}, {U: e.V, V: e.U, Tier: -e.Tier - 1}} {
			checkNoForest(t, 8, []api.Edge{e, twin})
			checkSpanning(t, 8, []api.Edge{e, twin}, []api.Edge{e}, api.OK)
			behind := append(hand(), twin)
			checkNoForest(t, 8, behind)
			checkSpanning(t, 8, behind, hand(), api.OK)
			ahead := slices.Concat([]api.Edge{twin}, hand())
			checkNoForest(t, 8, ahead)
			checkSpanning(t, 8, ahead, slices.Concat([]api.Edge{twin}, without(hand(), at)), api.OK)
		}
	}
}

// P10.1, P10.2: a way round, alone, beside another tree, and with trees that hang on it.
func TestWaysRound(t *testing.T) {
	for _, n := range []int{3, 4, 5, 8, 100, maxN} {
		path := spread.Path(n)
		for _, last := range []api.Edge{{U: 0, V: n - 1}, {U: n - 1, V: 0, Tier: 5}} {
			ring := append(slices.Clone(path), last)
			checkNoForest(t, n, ring)
			checkSpanning(t, n, ring, path, api.OK)
			checkSpanning(t, n, spread.Turned(ring), spread.Turned(ring)[:n-1], api.OK)
			checkRight(t, n, ring[1:], true)
		}
		if n > 3 {
			round := append(slices.Clone(path), api.Edge{U: n - 3, V: n - 1})
			checkNoForest(t, n, round)
			checkSpanning(t, n, round, path, api.OK)
			apart := append(slices.Clone(path[n-3:]), api.Edge{U: n - 1, V: n - 3})
			checkNoForest(t, n, apart)
			checkSpanning(t, n, apart, path[n-3:], api.OK)
		}
	}
}

// P10.1, P10.2: an end that is no vertex, as U or as V, ahead of other edges or behind them.
func TestEndsThatAreNoVertices(t *testing.T) {
	for _, n := range []int{1, 2, 5, maxN} {
		for _, v := range spread.Beside(n) {
			for _, e := range []api.Edge{{U: v, V: 0}, {U: 0, V: v}, {U: v, V: n - 1}, {U: n - 1, V: v}, {U: v, V: v}, {U: v, V: n}} {
				for _, l := range [][]api.Edge{{e}, append(spread.Path(n), e), slices.Concat([]api.Edge{e}, spread.Path(n))} {
					checkRight(t, n, l, false)
					checkTree(t, n, l, 0, nil)
					checkTree(t, n, l, v, nil)
					checkPath(t, n, l, 0, n-1, nil, api.ErrArg)
					checkPath(t, n, l, 0, 0, nil, api.ErrArg)
					checkPath(t, n, l, v, v, nil, api.ErrArg)
					checkSpanning(t, n, l, nil, api.ErrArg)
				}
			}
		}
	}
}

// P10.1, P10.2: edges are told as they stand, with U above V, and with any number as a Tier.
func TestEdgesAreToldAsTheyStand(t *testing.T) {
	for _, tier := range []int{math.MinInt, math.MinInt32, -1, 0, 1, 16, 17, 1 << 32, math.MaxInt} {
		l := []api.Edge{{U: 3, V: 1, Tier: tier}, {U: 1, V: 2, Tier: tier}, {U: 2, V: 0, Tier: tier}}
		checkForest(t, 5, l)
		checkPath(t, 5, l, 3, 0, l, api.OK)
		checkPath(t, 5, l, 0, 3, []api.Edge{l[2], l[1], l[0]}, api.OK)
		round := api.Edge{U: 3, V: 0, Tier: tier}
		checkSpanning(t, 5, append(slices.Clone(l), round), l, api.OK)
		checkSpanning(t, 5, append([]api.Edge{round}, l...), []api.Edge{round, l[0], l[1]}, api.OK)
	}
}

// P10.1, P10.2: all lists of up to three edges of up to four vertices, some from a vertex to itself.
func TestAllShortListsOfEdges(t *testing.T) {
	for n := range 5 {
		var edges []api.Edge
		for u := range n {
			for v := range n {
				edges = append(edges, api.Edge{U: u, V: v, Tier: u - 2*v})
			}
		}
		for many := range 4 {
			for _, places := range spread.Lists(many, 0, len(edges)-1) {
				l := make([]api.Edge, many)
				for i, at := range places {
					l[i] = edges[at]
				}
				checkEdges(t, n, l)
			}
		}
	}
}

// P10.1, P10.2: of all graphs of up to five vertices as many are forests as there are.
func TestAllSmallGraphs(t *testing.T) {
	forests := []int{1, 1, 2, 7, 38, 291}
	for n := range 6 {
		found := 0
		for _, l := range spread.Graphs(n) {
			checkEdges(t, n, l)
			checkEdges(t, n, spread.Turned(l))
			if Right(n, l) {
				found++
			}
		}
		if found != forests[n] {
			t.Errorf("%d forests of %d vertices, want %d", found, n, forests[n])
		}
	}
}

// checkBig asks of a forest, from some vertices to all others.
func checkBig(t *testing.T, n int, l []api.Edge) {
	t.Helper()
	checkRight(t, n, l, true)
	for _, u := range []int{0, n / 3, n - 1} {
		tree := reached(n, l, u)
		checkTree(t, n, l, u, tree)
		for v := range n {
			if slices.Contains(tree, v) {
				checkWay(t, n, l, u, v)
				checkWay(t, n, l, v, u)
			} else {
				checkPath(t, n, l, u, v, nil, api.ErrNone)
				checkPath(t, n, l, v, u, nil, api.ErrNone)
			}
		}
	}
}

// P10.1, P10.2
func TestBigGraphs(t *testing.T) {
	for _, n := range []int{3, 10, 64, 120} {
		for _, l := range spread.Shapes(n) {
			checkRight(t, n, l, isForest(n, l))
			spanning := spanned(n, l)
			checkSpanning(t, n, l, spanning, api.OK)
			checkBig(t, n, spanning)
		}
	}
}

// P10.1, P10.2
func TestGraphsOfAllVertices(t *testing.T) {
	for _, l := range spread.Shapes(maxN) {
		spanning, err := Spanning(maxN, l)
		if err != api.OK || Right(maxN, l) != (len(spanning) == len(l)) {
			t.Errorf("Spanning(%d, %v): %v, %d", maxN, l, spanning, err)
		}
		checkRight(t, maxN, spanning, true)
		for u := 0; u < maxN; u += 300 {
			tree := reached(maxN, l, u)
			checkTree(t, maxN, spanning, u, tree)
			checkWay(t, maxN, spanning, u, tree[0])
			checkWay(t, maxN, spanning, tree[0], u)
			checkWay(t, maxN, spanning, u, tree[len(tree)-1])
		}
	}
}

// P10.1, P10.2: edges as many as there may come, of all vertices, end.
func TestVeryManyEdges(t *testing.T) {
	path := spread.Turned(spread.Path(maxN))
	l := slices.Repeat(path, 2000)
	if Right(maxN, l) || Tree(maxN, l, 0) != nil {
		t.Error("edges that stand 2000 times are a forest")
	}
	if p, err := Path(maxN, l, 0, 1); p != nil || err != api.ErrArg {
		t.Errorf("Path: %v, %d", p, err)
	}
	if got, err := Spanning(maxN, l); err != api.OK || !slices.Equal(got, path) {
		t.Errorf("Spanning: %v, %d", got, err)
	}
	if e, ok := Greatest(l); e != path[0] || !ok {
		t.Errorf("Greatest: %v, %v", e, ok)
	}
}

// P10.2
func TestGreatestByHand(t *testing.T) {
	checkGreatest(t, nil, api.Edge{}, false)
	checkGreatest(t, []api.Edge{}, api.Edge{}, false)
	checkGreatest(t, []api.Edge{{}}, api.Edge{}, true)
	checkGreatest(t, hand(), api.Edge{U: 1, V: 5, Tier: 1 << 40}, true)
	for _, c := range []struct{ less, greater api.Edge }{
		// The Tier is asked first, whatever the ends are.
		{api.Edge{U: 9, V: 9, Tier: 0}, api.Edge{U: 0, V: 0, Tier: 1}},
		{api.Edge{U: 9, V: 9, Tier: -1}, api.Edge{U: 0, V: 0, Tier: 0}},
		{api.Edge{U: 9, V: 9, Tier: -2}, api.Edge{U: 0, V: 0, Tier: -1}},
		{api.Edge{U: 9, V: 9, Tier: math.MinInt}, api.Edge{U: 0, V: 0, Tier: math.MaxInt}},
		{api.Edge{U: 2, V: 3, Tier: 3}, api.Edge{U: 2, V: 3, Tier: 4}},
		// Then U, and then V.
		{api.Edge{U: 0, V: 9, Tier: 4}, api.Edge{U: 1, V: 2, Tier: 4}},
		{api.Edge{U: 1, V: 2, Tier: 4}, api.Edge{U: 1, V: 3, Tier: 4}},
		{api.Edge{U: -2, V: 9, Tier: -1}, api.Edge{U: -1, V: 2, Tier: -1}},
		{api.Edge{U: 1, V: -3}, api.Edge{U: 1, V: -2}},
		{api.Edge{U: math.MinInt, V: 9}, api.Edge{U: math.MaxInt, V: 2}},
		{api.Edge{U: 1, V: math.MinInt}, api.Edge{U: 1, V: math.MaxInt}},
		// U and V as they stand: by its lesser end the first one would be the greater one.
		{api.Edge{U: 4, V: 6, Tier: 2}, api.Edge{U: 5, V: 0, Tier: 2}},
		{api.Edge{U: 0, V: 5, Tier: 2}, api.Edge{U: 5, V: 0, Tier: 2}},
	} {
		checkGreatest(t, []api.Edge{c.less}, c.less, true)
		checkGreatest(t, []api.Edge{c.less, c.greater}, c.greater, true)
		checkGreatest(t, []api.Edge{c.greater, c.less}, c.greater, true)
		checkGreatest(t, []api.Edge{c.less, c.greater, c.less}, c.greater, true)
		checkGreatest(t, []api.Edge{c.greater, c.less, c.greater}, c.greater, true)
	}
}

// isGreater compares by numbers alone.
func isGreater(a, b api.Edge) bool {
	return slices.Compare([]int{a.Tier, a.U, a.V}, []int{b.Tier, b.U, b.V}) > 0
}

// P10.2: all lists of up to three edges, of which some are alike, with ends and Tiers from -1 to 1.
func TestGreatestOfAllShortLists(t *testing.T) {
	numbers := spread.Lists(3, -1, 1)
	for many := 1; many < 4; many++ {
		for _, places := range spread.Lists(many, 0, len(numbers)-1) {
			var l []api.Edge
			var want api.Edge
			for i, at := range places {
				e := api.Edge{U: numbers[at][0], V: numbers[at][1], Tier: numbers[at][2]}
				l = append(l, e)
				if i == 0 || isGreater(e, want) {
					want = e
				}
			}
			checkGreatest(t, l, want, true)
		}
	}
}

// P10.2: of long lists, that turn any way.
func TestGreatestOfLongLists(t *testing.T) {
	l := spread.Mixed(maxN, 500)
	want := l[499]
	for at := range l {
		checkGreatest(t, slices.Concat(l[at:], l[:at]), want, true)
	}
	for i := range l {
		l[i].Tier = 7
		if i == 0 || isGreater(l[i], want) {
			want = l[i]
		}
	}
	for at := range l {
		checkGreatest(t, slices.Concat(l[at:], l[:at]), want, true)
	}
}

// P10.2
func TestSpanningByHand(t *testing.T) {
	l := hand()
	round := api.Edge{U: 0, V: 5, Tier: 2}
	checkSpanning(t, 8, l, l, api.OK)
	checkSpanning(t, 8, append(slices.Clone(l), round), l, api.OK)
	checkSpanning(t, 8, append([]api.Edge{round}, l...), []api.Edge{round, l[0], l[1], l[2], l[4]}, api.OK)
	checkSpanning(t, 8, slices.Insert(slices.Clone(l), 2, round), []api.Edge{l[0], l[1], round, l[2], l[4]}, api.OK)
	checkSpanning(t, 8, []api.Edge{{U: 2, V: 2}}, nil, api.OK)
	checkSpanning(t, 7, l, nil, api.ErrArg)
	checkSpanning(t, -1, nil, nil, api.ErrArg)
}

// P10.3: a spanning forest connects what all edges connect, and is a forest.
func TestSpanningConnectsTheSame(t *testing.T) {
	for _, n := range []int{3, 30, 200, maxN} {
		for _, l := range spread.Shapes(n) {
			spanning, err := Spanning(n, l)
			if err != api.OK {
				t.Errorf("Spanning(%d, %v): %d", n, l, err)
			}
			checkConnectsTheSame(t, n, l, spanning)
			checkSpanning(t, n, spanning, spanning, api.OK)
		}
	}
	for n := range 6 {
		for _, l := range spread.Graphs(n) {
			spanning, _ := Spanning(n, l)
			checkConnectsTheSame(t, n, l, spanning)
		}
	}
}

// checkConnectsTheSame asks that a forest connects what edges connect.
func checkConnectsTheSame(t *testing.T, n int, l, forest []api.Edge) {
	t.Helper()
	checkRight(t, n, forest, true)
	p, _ := part.Of(n, l)
	if q, err := part.Of(n, forest); err != api.OK || !slices.Equal(p, q) {
		t.Errorf("%v connects %v, %v connects %v", l, p, forest, q)
	}
}

// checkExchange puts an edge between u and v in the place of each one of the path.
func checkExchange(t *testing.T, n int, l []api.Edge, u, v int) {
	t.Helper()
	path, err := Path(n, l, u, v)
	if err == api.ErrNone {
		return
	}
	for _, gone := range path {
		at := slices.Index(l, gone)
		other := slices.Clone(l)
		other[at] = api.Edge{U: u, V: v}
		checkConnectsTheSame(t, n, l, other)
		checkRight(t, n, append(other, gone), false)
	}
}

// P10.3: with an edge of a path gone, and one between its ends in its place, a forest connects the same.
func TestExchange(t *testing.T) {
	for n := range 6 {
		for _, l := range spread.Graphs(n) {
			if !Right(n, l) {
				continue
			}
			for u := range n {
				for v := range n {
					checkExchange(t, n, l, u, v)
				}
			}
		}
	}
	for _, n := range []int{10, 60} {
		for _, l := range spread.Shapes(n) {
			spanning, _ := Spanning(n, l)
			for v := range n {
				checkExchange(t, n, spanning, n/2, v)
				checkExchange(t, n, spanning, v, 0)
			}
		}
	}
}

// wipe writes into all of a list, and behind it as far as it has room.
func wipe[T any](l []T, x T) {
	l = l[:cap(l)]
	for i := range l {
		l[i] = x
	}
}

// What is written into an answer, or behind it, is told nowhere else.
func TestAnswersAreNewMemory(t *testing.T) {
	none := api.Edge{U: -1000, V: -1000, Tier: -1000}
	for n := range 5 {
		for _, kept := range spread.Graphs(n) {
			l := spread.Loose(kept)
			spanning, _ := Spanning(n, l)
			wipe(spanning, none)
			checkAsItWas(t, l, kept)
			for u := range n {
				wipe(Tree(n, l, u), -1000)
				for v := range n {
					path, _ := Path(n, l, u, v)
					wipe(path, none)
					checkAsItWas(t, l, kept)
				}
			}
			checkEdges(t, n, l)
		}
	}
}
