package part

import (
	"math"
	"slices"
	"testing"

	"raftsman/api"
	"raftsman/spread"
)

// maxN is written in digits, so that a wrong api.MaxN would be told, too.
const maxN = 1024

// marks is what a partition should be: a mark by each vertex, the same one (any number) for those of one class alone.
type marks []int

// apart are n vertices, each with a mark of its own.
func apart(n int) marks {
	m := make(marks, n)
	for v := range m {
		m[v] = 7 - v
	}
	return m
}

// joined has one mark for all that had those of u or of v.
func (m marks) joined(u, v int) marks {
	list := slices.Clone(m)
	for w, x := range m {
		if x == m[u] {
			list[w] = m[v]
		}
	}
	return list
}

// class are the vertices of v's mark.
func (m marks) class(v int) []int {
	var list []int
	for w, x := range m {
		if x == m[v] {
			list = append(list, w)
		}
	}
	return list
}

// list is the partition: of each vertex the first one of its mark.
func (m marks) list() []int {
	list := make([]int, len(m))
	for v, x := range m {
		list[v] = slices.Index(m, x)
	}
	return list
}

func (m marks) many() int {
	l := slices.Clone(m)
	slices.Sort(l)
	return len(slices.Compact(l))
}

// refines asks each two vertices.
func (m marks) refines(other marks) bool {
	for u := range m {
		for v := range m {
			if m[u] == m[v] && other[u] != other[v] {
				return false
			}
		}
	}
	return len(m) == len(other)
}

// linked are the marks of edges' vertices: each is that from which the walk along the edges came.
func linked(n int, l []api.Edge) marks {
	near := make([][]int, n)
	for _, e := range l {
		near[e.U] = append(near[e.U], e.V)
		near[e.V] = append(near[e.V], e.U)
	}
	m := make(marks, n)
	for v := range m {
		m[v] = -1
	}
	for start := range m {
		for open := []int{start}; len(open) > 0; {
			v := open[len(open)-1]
			open = open[:len(open)-1]
			if m[v] < 0 {
				m[v] = start
				open = append(open, near[v]...)
			}
		}
	}
	return m
}

// all are all the ways to mark n vertices: each has a mark that one ahead of it has, or the next one.
func all(n int) []marks {
	list := []marks{{}}
	for range n {
		var longer []marks
		for _, m := range list {
			for x := range m.many() + 1 {
				longer = append(longer, slices.Concat(m, marks{x}))
			}
		}
		list = longer
	}
	return list
}

// beside: is v none of n vertices?
func beside(n, v int) bool { return v < 0 || v >= n }

// noPartitions are lists that are none, and all that is wrong with each is in one place.
func noPartitions() [][]int {
	return [][]int{
		// A number below 0.
		{-1},
		{0, -1},
		{-1, 1},
		{-2, 1, 2},
		{0, 1, 2, -3},
		{math.MinInt},
		{0, math.MinInt, 2},
		{0, 1, math.MinInt32},
		// One above its own place.
		{1},
		{1, 1},
		{0, 2, 2},
		{0, 1, 3},
		{2, 1, 2},
		{0, 1, 4, 3, 4},
		{math.MaxInt},
		{0, math.MaxInt, 2},
		{0, 1, 1 << 32},
		{1 << 32, 1},
		// One that is a place that does not have itself.
		{0, 0, 1},
		{0, 1, 1, 2},
		{0, 0, 0, 1},
		{0, 0, 2, 2, 3},
		{0, 1, 0, 3, 3, 2},
		{0, 0, 1, 2, 3},
	}
}

func checkRight(t *testing.T, p []int, want bool) {
	t.Helper()
	kept := slices.Clone(p)
	if got := Right(p); got != want {
		t.Errorf("Right(%v): %v", p, got)
	}
	checkAsItWas(t, p, kept)
}

func checkOf(t *testing.T, n int, l []api.Edge, want []int, err api.Errno) {
	t.Helper()
	kept := slices.Clone(l)
	p, e := Of(n, l)
	if e != err || !slices.Equal(p, want) {
		t.Errorf("Of(%d, %v): %v, %d, want %v, %d", n, kept, p, e, want, err)
	}
	if !slices.Equal(l, kept) {
		t.Errorf("the edges became %v, they were %v", l, kept)
	}
}

func checkMany(t *testing.T, p []int, want int) {
	t.Helper()
	kept := slices.Clone(p)
	if got := Many(p); got != want {
		t.Errorf("Many(%v): %d, want %d", p, got, want)
	}
	checkAsItWas(t, p, kept)
}

func checkClass(t *testing.T, p []int, v int, want []int) {
	t.Helper()
	kept := slices.Clone(p)
	if got := Class(p, v); !slices.Equal(got, want) {
		t.Errorf("Class(%v, %d): %v, want %v", kept, v, got, want)
	}
	checkAsItWas(t, p, kept)
}

func checkRefines(t *testing.T, p, q []int, want bool) {
	t.Helper()
	a, b := slices.Clone(p), slices.Clone(q)
	if got := Refines(p, q); got != want {
		t.Errorf("Refines(%v, %v): %v", a, b, got)
	}
	checkAsItWas(t, p, a)
	checkAsItWas(t, q, b)
}

func checkJoin(t *testing.T, p []int, u, v int, want []int) {
	t.Helper()
	kept := slices.Clone(p)
	if got := Join(p, u, v); !slices.Equal(got, want) {
		t.Errorf("Join(%v, %d, %d): %v, want %v", kept, u, v, got, want)
	}
	checkAsItWas(t, p, kept)
}

func checkAsItWas(t *testing.T, l, kept []int) {
	t.Helper()
	if !slices.Equal(l, kept) {
		t.Errorf("what was handed in became %v, it was %v", l, kept)
	}
}

// checkPartition asks of one partition all that may be asked of it, at each vertex and beside them.
func checkPartition(t *testing.T, m marks) {
	t.Helper()
	p, n := m.list(), len(m)
	checkRight(t, p, true)
	checkMany(t, p, m.many())
	checkRefines(t, p, p, true)
	for v := range n {
		checkClass(t, p, v, m.class(v))
		checkJoin(t, p, v, v, p)
	}
	for _, v := range spread.Spots(n) {
		if beside(n, v) {
			checkClass(t, p, v, nil)
			checkJoin(t, p, v, 0, p)
			checkJoin(t, p, n-1, v, p)
			checkJoin(t, p, v, v, p)
		}
	}
}

// checkNoPartition asks of a list that is none all that may be asked, also at vertices where nothing is wrong.
func checkNoPartition(t *testing.T, p []int) {
	t.Helper()
	checkRight(t, p, false)
	checkMany(t, p, 0)
	checkRefines(t, p, p, false)
	right := apart(len(p)).list()
	checkRefines(t, p, right, false)
	checkRefines(t, right, p, false)
	checkRefines(t, p, make([]int, len(p)), false)
	checkRefines(t, make([]int, len(p)), p, false)
	for _, u := range spread.Spots(len(p)) {
		checkClass(t, p, u, nil)
		for _, v := range spread.Spots(len(p)) {
			checkJoin(t, p, u, v, p)
		}
	}
}

// P9.1
func TestRightByHand(t *testing.T) {
	for _, p := range [][]int{{0}, {0, 0}, {0, 1}, {0, 1, 0, 0}, {0, 1, 2}, {0, 0, 0}, {0, 0, 2}, {0, 1, 1}, {0, 1, 0}, {0, 1, 2, 1, 2, 0, 6}} {
		checkRight(t, p, true)
	}
	for _, p := range noPartitions() {
		checkRight(t, p, false)
	}
}

// P9.1, P9.2: of no vertices there is a partition, of no classes.
func TestPartitionOfNoVertices(t *testing.T) {
	for _, p := range [][]int{nil, {}} {
		checkPartition(t, p)
		checkMany(t, p, 0)
		checkClass(t, p, 0, nil)
		checkRefines(t, p, nil, true)
		checkRefines(t, p, []int{}, true)
		checkRefines(t, p, []int{0}, false)
		checkRefines(t, []int{0}, p, false)
		checkJoin(t, p, 0, 0, nil)
	}
	checkOf(t, 0, nil, nil, api.OK)
	checkOf(t, 0, []api.Edge{}, nil, api.OK)
}

// P9.1, P9.2: all lists of up to five numbers from -1 on: just those that come of marks are partitions.
func TestAllShortLists(t *testing.T) {
	partitions := []int{1, 1, 2, 5, 15, 52}
	for n := range 6 {
		var right [][]int
		for _, m := range all(n) {
			right = append(right, m.list())
			checkPartition(t, m)
		}
		found := 0
		for _, p := range spread.Lists(n, -1, n) {
			is := slices.ContainsFunc(right, func(q []int) bool { return slices.Equal(p, q) })
			checkRight(t, p, is)
			if is {
				found++
				continue
			}
			checkMany(t, p, 0)
			checkRefines(t, p, p, false)
			for v := -1; v <= n; v++ {
				checkClass(t, p, v, nil)
				checkJoin(t, p, v, 0, p)
				checkJoin(t, p, n-1, v, p)
			}
		}
		if found != partitions[n] || len(right) != found {
			t.Errorf("%d partitions of %d vertices, %d of marks", found, n, len(right))
		}
	}
}

// P9.1, P9.2
func TestNoPartitions(t *testing.T) {
	for _, p := range noPartitions() {
		checkNoPartition(t, p)
	}
}

// P9.1, P9.2: there may be more than MaxN vertices, and what is wrong may be at the first place, or at the last one.
func TestLongPartitions(t *testing.T) {
	for _, n := range []int{maxN - 1, maxN, maxN + 1, 5 * maxN} {
		odd := make(marks, n)
		for v := range odd {
			odd[v] = v % 2
		}
		checkRight(t, odd, true)
		checkMany(t, odd, 2)
		checkMany(t, apart(n).list(), n)
		checkMany(t, make([]int, n), 1)
		checkClass(t, odd, n-1, odd.class(n-1))
		checkClass(t, odd, n-2, odd.class(n-2))
		checkClass(t, odd, n, nil)
		checkClass(t, apart(n).list(), n-1, []int{n - 1})
		checkRefines(t, odd, make([]int, n), true)
		checkRefines(t, make([]int, n), odd, false)
		checkRefines(t, apart(n).list(), odd, true)
		checkRefines(t, odd, odd[:n-1], false)
		checkRefines(t, odd[:n-1], odd, false)
		checkJoin(t, odd, n-1, n-2, make([]int, n))
		checkJoin(t, odd, n-1, n, odd)
		checkJoin(t, apart(n).list(), n-1, n-2, append(apart(n-1).list(), n-2))
		for _, at := range []int{0, 1, n / 2, n - 1} {
			for _, x := range []int{-1, math.MinInt, at + 1, n, math.MaxInt} {
				p := slices.Clone(odd)
				p[at] = x
				checkRight(t, p, false)
				checkMany(t, p, 0)
				checkClass(t, p, (at+2)%n, nil)
				checkRefines(t, p, odd, false)
				checkRefines(t, odd, p, false)
				checkJoin(t, p, 0, 1, p)
			}
		}
		last := slices.Clone(odd)
		last[n-1] = n - 2
		checkRight(t, last, false)
		checkMany(t, last, 0)
		checkClass(t, last, 0, nil)
	}
}

// P9.1: the first one is the chapter's example.
func TestOfByHand(t *testing.T) {
	checkOf(t, 4, []api.Edge{{U: 0, V: 2}, {U: 2, V: 3}}, []int{0, 1, 0, 0}, api.OK)
	checkOf(t, 4, []api.Edge{{U: 3, V: 2}, {U: 2, V: 0}}, []int{0, 1, 0, 0}, api.OK)
	checkOf(t, 4, []api.Edge{{U: 2, V: 3, Tier: 9}, {U: 1, V: 3, Tier: -1}}, []int{0, 1, 1, 1}, api.OK)
	checkOf(t, 6, []api.Edge{{U: 5, V: 3}, {U: 4, V: 2}, {U: 3, V: 4}}, []int{0, 1, 2, 2, 2, 2}, api.OK)
	checkOf(t, 6, []api.Edge{{U: 5, V: 3}, {U: 4, V: 2}, {U: 0, V: 5}}, []int{0, 1, 2, 0, 2, 0}, api.OK)
	checkOf(t, 3, []api.Edge{{U: 0, V: 1}, {U: 1, V: 2}, {U: 2, V: 0}}, []int{0, 0, 0}, api.OK)
	checkOf(t, 3, []api.Edge{{U: 1, V: 2}, {U: 2, V: 1}, {U: 1, V: 2}}, []int{0, 1, 1}, api.OK)
}

// P9.1
func TestOfNoEdges(t *testing.T) {
	for _, n := range []int{1, 2, 3, 100, maxN - 1, maxN} {
		checkOf(t, n, nil, apart(n).list(), api.OK)
		checkOf(t, n, []api.Edge{}, apart(n).list(), api.OK)
	}
}

// P9.1: an edge from a vertex to itself does nothing, but the vertex has to be there.
func TestOfEdgesFromAVertexToItself(t *testing.T) {
	for _, n := range []int{1, 2, 7, maxN} {
		for _, v := range []int{0, n / 2, n - 1} {
			checkOf(t, n, []api.Edge{{U: v, V: v}}, apart(n).list(), api.OK)
			checkOf(t, n, []api.Edge{{U: v, V: v}, {U: v, V: v}}, apart(n).list(), api.OK)
		}
		for _, v := range []int{-1, n, math.MinInt, math.MaxInt} {
			checkOf(t, n, []api.Edge{{U: v, V: v}}, nil, api.ErrArg)
		}
	}
	checkOf(t, 3, []api.Edge{{U: 1, V: 2}, {U: 2, V: 2}, {U: 0, V: 0}}, []int{0, 1, 1}, api.OK)
	checkOf(t, 3, []api.Edge{{U: 2, V: 2}, {U: 0, V: 2}, {U: 2, V: 2}}, []int{0, 1, 0}, api.OK)
}

// P9.1: how many vertices there may be; with edges whose ends would be there, or would not.
func TestOfTooManyVertices(t *testing.T) {
	for _, n := range spread.WrongSizes() {
		checkOf(t, n, nil, nil, api.ErrArg)
		checkOf(t, n, []api.Edge{{U: 0, V: 1}}, nil, api.ErrArg)
		checkOf(t, n, []api.Edge{{U: -1, V: 0}}, nil, api.ErrArg)
	}
	checkOf(t, maxN, []api.Edge{{U: maxN - 1, V: 0}}, append(apart(maxN-1).list(), 0), api.OK)
}

// P9.1: an end that is none of the n, as U or as V, ahead of other edges or behind them.
func TestOfEndsThatAreNotThere(t *testing.T) {
	for _, n := range []int{0, 1, 2, 5, maxN} {
		for _, v := range spread.Spots(n) {
			if !beside(n, v) {
				continue
			}
			for _, e := range []api.Edge{{U: v, V: 0}, {U: 0, V: v}, {U: v, V: n - 1}, {U: n - 1, V: v}, {U: v, V: v}, {U: v, V: n}} {
				checkOf(t, n, []api.Edge{e}, nil, api.ErrArg)
				if n > 1 {
					checkOf(t, n, append(spread.Path(n), e), nil, api.ErrArg)
					checkOf(t, n, append([]api.Edge{e}, spread.Path(n)...), nil, api.ErrArg)
				}
			}
		}
	}
}

// P9.1: all lists of up to three edges of up to four vertices.
func TestOfAllShortListsOfEdges(t *testing.T) {
	for n := range 5 {
		var edges []api.Edge
		for u := range n {
			for v := range n {
				edges = append(edges, api.Edge{U: u, V: v, Tier: u - 2*v})
			}
		}
		for many := range 4 {
			for _, l := range spread.Lists(many, 0, len(edges)-1) {
				chosen := make([]api.Edge, many)
				for i, at := range l {
					chosen[i] = edges[at]
				}
				checkOf(t, n, chosen, linked(n, chosen).list(), api.OK)
			}
		}
	}
}

// P9.1: all sets of edges of five vertices, in the order of their ends and the other way round.
func TestOfAllSmallGraphs(t *testing.T) {
	var edges []api.Edge
	for v := range 5 {
		for u := range v {
			edges = append(edges, api.Edge{U: u, V: v})
		}
	}
	for set := range 1 << len(edges) {
		var l []api.Edge
		for i, e := range edges {
			if set>>i&1 > 0 {
				l = append(l, e)
			}
		}
		want := linked(5, l).list()
		checkOf(t, 5, l, want, api.OK)
		checkOf(t, 5, spread.Turned(l), want, api.OK)
	}
}

// P9.1, P9.2
func TestOfBigGraphs(t *testing.T) {
	for _, n := range []int{3, 10, 64, 65, 300} {
		for _, l := range spread.Shapes(n) {
			m := linked(n, l)
			checkOf(t, n, l, m.list(), api.OK)
			checkPartition(t, m)
		}
	}
	for _, l := range spread.Shapes(maxN) {
		checkOf(t, maxN, l, linked(maxN, l).list(), api.OK)
	}
}

// P9.1: edges as many as there may come, of all vertices, end.
func TestOfVeryManyEdges(t *testing.T) {
	l := slices.Repeat(spread.Turned(spread.Path(maxN)), 2000)
	checkEnd(t, l, make([]int, maxN))
	checkEnd(t, slices.Repeat([]api.Edge{{U: maxN - 1, V: maxN - 2}}, 2000000), append(apart(maxN-1).list(), maxN-2))
}

// checkEnd is checkOf of MaxN vertices, that does not tell the edges.
func checkEnd(t *testing.T, l []api.Edge, want []int) {
	t.Helper()
	if p, err := Of(maxN, l); err != api.OK || !slices.Equal(p, want) {
		t.Errorf("Of(%d, %d edges): %v, %d, want %v", maxN, len(l), p, err, want)
	}
}

// P9.2
func TestClassesByHand(t *testing.T) {
	p := []int{0, 1, 0, 0, 1, 5}
	checkMany(t, p, 3)
	checkClass(t, p, 0, []int{0, 2, 3})
	checkClass(t, p, 2, []int{0, 2, 3})
	checkClass(t, p, 3, []int{0, 2, 3})
	checkClass(t, p, 1, []int{1, 4})
	checkClass(t, p, 4, []int{1, 4})
	checkClass(t, p, 5, []int{5})
	for _, v := range []int{-1, 6, 7, math.MinInt, math.MaxInt, 1 << 32} {
		checkClass(t, p, v, nil)
	}
}

// P9.2
func TestRefinesByHand(t *testing.T) {
	for _, c := range []struct {
		p, q        []int
		there, back bool
	}{
		{[]int{0}, []int{0}, true, true},
		{[]int{0, 1}, []int{0, 0}, true, false},
		{[]int{0, 1, 0, 0}, []int{0, 0, 0, 0}, true, false},
		{[]int{0, 1, 0, 3}, []int{0, 1, 0, 1}, true, false},
		{[]int{0, 1, 2, 2}, []int{0, 1, 1, 1}, true, false},
		{[]int{0, 1, 1}, []int{0, 0, 2}, false, false},
		{[]int{0, 0, 2}, []int{0, 1, 0}, false, false},
		{[]int{0, 1, 0, 1}, []int{0, 0, 2, 2}, false, false},
		{[]int{0, 1, 1, 1}, []int{0, 0, 2, 2}, false, false},
	} {
		checkRefines(t, c.p, c.q, c.there)
		checkRefines(t, c.q, c.p, c.back)
	}
}

// P9.2: all partitions of up to five vertices, each against each.
func TestRefinesOfAllSmallPartitions(t *testing.T) {
	for n := range 6 {
		for _, p := range all(n) {
			for _, q := range all(n) {
				checkRefines(t, p.list(), q.list(), p.refines(q))
			}
		}
	}
}

// P9.2: one that has more vertices, on either side, also where those that both have are of the same classes.
func TestRefinesOfUnlikeSizes(t *testing.T) {
	for m := range 5 {
		for n := range 5 {
			if m == n {
				continue
			}
			for _, p := range all(m) {
				for _, q := range all(n) {
					checkRefines(t, p.list(), q.list(), false)
				}
			}
		}
	}
}

// P9.2: one that is none, on either side, beside all that are.
func TestRefinesOfNoPartition(t *testing.T) {
	for _, p := range noPartitions() {
		for n := range 5 {
			for _, q := range all(n) {
				checkRefines(t, p, q.list(), false)
				checkRefines(t, q.list(), p, false)
			}
		}
		for _, q := range noPartitions() {
			checkRefines(t, p, q, false)
		}
	}
}

// P9.2
func TestJoinByHand(t *testing.T) {
	p := []int{0, 1, 0, 3, 1, 5}
	checkJoin(t, p, 0, 1, []int{0, 0, 0, 3, 0, 5})
	checkJoin(t, p, 4, 2, []int{0, 0, 0, 3, 0, 5})
	checkJoin(t, p, 3, 4, []int{0, 1, 0, 1, 1, 5})
	checkJoin(t, p, 4, 3, []int{0, 1, 0, 1, 1, 5})
	checkJoin(t, p, 5, 3, []int{0, 1, 0, 3, 1, 3})
	checkJoin(t, p, 5, 2, []int{0, 1, 0, 3, 1, 0})
	checkJoin(t, p, 2, 0, []int{0, 1, 0, 3, 1, 5})
	checkJoin(t, p, 5, 5, []int{0, 1, 0, 3, 1, 5})
	for _, v := range []int{-1, 6, 7, math.MinInt, math.MaxInt, 1 << 32} {
		checkJoin(t, p, 0, v, p)
		checkJoin(t, p, v, 1, p)
		checkJoin(t, p, v, v, p)
		checkJoin(t, p, v, 6, p)
	}
}

// checkJoinOfAll asks of each two vertices, and holds what is answered also against the chapter's sentence.
func checkJoinOfAll(t *testing.T, m marks) {
	t.Helper()
	p := m.list()
	for u := range m {
		for v := range m {
			want := m.joined(u, v)
			checkJoin(t, p, u, v, want.list())
			q := Join(p, u, v)
			checkRight(t, q, true)
			checkRefines(t, p, q, true)
			checkRefines(t, q, p, p[u] == p[v])
			checkMany(t, q, m.many()-unlike(p[u], p[v]))
			checkClass(t, q, u, want.class(v))
			checkJoin(t, q, v, u, q)
		}
	}
}

func unlike(a, b int) int {
	if a == b {
		return 0
	}
	return 1
}

// P9.2
func TestJoinOfAllSmallPartitions(t *testing.T) {
	for n := range 7 {
		for _, m := range all(n) {
			checkJoinOfAll(t, m)
		}
	}
}

// P9.2
func TestJoinOfBigPartitions(t *testing.T) {
	for _, l := range spread.Shapes(40) {
		checkJoinOfAll(t, linked(40, l))
	}
}

// P9.3: from edge to edge there is less to tell apart, and each is a Join.
func TestOneEdgeMore(t *testing.T) {
	for _, n := range []int{3, 9, 60} {
		for _, l := range spread.Shapes(n) {
			before, _ := Of(n, nil)
			for i, e := range l {
				behind, err := Of(n, l[:i+1])
				if err != api.OK {
					t.Fatalf("Of(%d, %v): %d", n, l[:i+1], err)
				}
				checkJoin(t, before, e.U, e.V, behind)
				checkJoin(t, before, e.V, e.U, behind)
				checkRefines(t, before, behind, true)
				checkRefines(t, behind, before, before[e.U] == before[e.V])
				before = behind
			}
		}
	}
}

// P9.3: any of the edges, not just the first ones.
func TestFewerEdges(t *testing.T) {
	words := spread.Words(2000)
	for _, n := range []int{5, 30, 200} {
		for _, l := range spread.Shapes(n) {
			p, _ := Of(n, l)
			for skip := 2; skip < 5; skip++ {
				var fewer []api.Edge
				for i, e := range l {
					if words[i]>>9%uint64(skip) == 0 {
						fewer = append(fewer, e)
					}
				}
				q, err := Of(n, fewer)
				if err != api.OK {
					t.Fatalf("Of(%d, %v): %d", n, fewer, err)
				}
				checkRefines(t, q, p, true)
				checkRefines(t, p, q, slices.Equal(p, q))
			}
		}
	}
}

// P9.3: in which order edges come, and which end of each is U, does not matter.
func TestOrderOfEdges(t *testing.T) {
	for _, n := range []int{3, 9, 60, 500} {
		for _, l := range spread.Shapes(n) {
			p, _ := Of(n, l)
			checkOf(t, n, spread.Turned(l), p, api.OK)
			checkOf(t, n, slices.Concat(l[len(l)/3:], l[:len(l)/3]), p, api.OK)
			checkOf(t, n, slices.Concat(l, spread.Turned(l)), p, api.OK)
		}
	}
}

// wipe writes into all of a list, and behind it as far as it has room.
func wipe(l []int) {
	l = l[:cap(l)]
	for i := range l {
		l[i] = -1000
	}
}

// What is written into an answer, or behind it, is told nowhere else.
func TestAnswersAreNewMemory(t *testing.T) {
	for n := range 6 {
		for _, m := range all(n) {
			// There is room behind the list, that is nobody's to write into.
			p := append(m.list(), 70, 80)[:n]
			var l []api.Edge
			for v, least := range p {
				l = append(l, api.Edge{U: v, V: least})
			}
			answer, _ := Of(n, l)
			wipe(answer)
			checkOf(t, n, l, m.list(), api.OK)
			for u := -1; u <= n; u++ {
				wipe(Class(p, u))
				for v := -1; v <= n; v++ {
					wipe(Join(p, u, v))
				}
			}
			checkAsItWas(t, p[:n+2], append(m.list(), 70, 80))
		}
	}
	for _, kept := range noPartitions() {
		p := slices.Clone(kept)
		wipe(Join(p, 0, 0))
		checkAsItWas(t, p, kept)
	}
}
