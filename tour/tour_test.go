package tour

import (
	"math"
	"slices"
	"testing"

	"raftsman/api"
	"raftsman/spread"
)

// tree is what a tour should be the tour of: it is gone around as the chapter tells.
type tree struct {
	vertex   int
	children []tree
}

func (x tree) tour() []int {
	list := []int{x.vertex}
	for _, c := range x.children {
		list = append(append(list, c.tour()...), x.vertex)
	}
	return list
}

func (x tree) vertices() []int {
	list := []int{x.vertex}
	for _, c := range x.children {
		list = append(list, c.vertices()...)
	}
	return list
}

func (x tree) edges() []api.Edge {
	var list []api.Edge
	for _, c := range x.children {
		list = append(list, between(x.vertex, c.vertex))
		list = append(list, c.edges()...)
	}
	return list
}

func between(u, v int) api.Edge {
	if u > v {
		u, v = v, u
	}
	return api.Edge{U: u, V: v}
}

// rerooted is the tree as it hangs from v, with what the root has above it (if anything) as its last child. What stands ahead of the way down comes last, as the tour comes around to it last.
func (x tree) rerooted(v int, above []tree) (tree, bool) {
	if x.vertex == v {
		return tree{v, slices.Concat(x.children, above)}, true
	}
	for i, c := range x.children {
		rest := tree{x.vertex, slices.Concat(x.children[i+1:], above, x.children[:i])}
		if r, ok := c.rerooted(v, []tree{rest}); ok {
			return r, true
		}
	}
	return tree{}, false
}

// hung is the tree as it hangs from v, which is in it.
func (x tree) hung(t *testing.T, v int) tree {
	t.Helper()
	r, ok := x.rerooted(v, nil)
	if !ok {
		t.Fatalf("%v has no %d", x.tour(), v)
	}
	return r
}

// without is the tree without the root's child v, and that child.
func (x tree) without(t *testing.T, v int) (rest, below tree) {
	t.Helper()
	i := slices.IndexFunc(x.children, func(c tree) bool { return c.vertex == v })
	if i < 0 {
		t.Fatalf("%d has no child %d", x.vertex, v)
	}
	return tree{x.vertex, slices.Concat(x.children[:i], x.children[i+1:])}, x.children[i]
}

// forests are all lists of trees, in each order of their children, whose vertices by first place are l.
func forests(l []int) [][]tree {
	if len(l) == 0 {
		return [][]tree{nil}
	}
	var list [][]tree
	for many := range l {
		for _, below := range forests(l[1 : many+1]) {
			for _, others := range forests(l[many+1:]) {
				list = append(list, slices.Concat([]tree{{l[0], below}}, others))
			}
		}
	}
	return list
}

// shapes are all trees whose vertices by first place are l.
func shapes(l []int) []tree {
	var list []tree
	for _, children := range forests(l[1:]) {
		list = append(list, tree{l[0], children})
	}
	return list
}

// choices are all lists of that many unlike ones of l.
func choices(l []int, many int) [][]int {
	if many == 0 {
		return [][]int{nil}
	}
	var list [][]int
	for i, v := range l {
		for _, others := range choices(slices.Concat(l[:i], l[i+1:]), many-1) {
			list = append(list, slices.Concat([]int{v}, others))
		}
	}
	return list
}

// labels are vertices as they may be: 0, ones below it, and the least and the greatest one.
func labels() []int { return []int{0, -1, math.MaxInt, math.MinInt, 1, 1 << 32} }

// small are all trees of at most five vertices, in one order of those.
func small() []tree {
	var list []tree
	for many := range 5 {
		list = append(list, shapes(labels()[:many+1])...)
	}
	return list
}

// grown is a tree of that many vertices, from first on: each hangs from one of those ahead of it that reach picks.
func grown(first, many int, reach func(i int, w uint64) int) tree {
	children := make([][]int, many)
	for i, w := range spread.Words(many) {
		if i > 0 {
			up := reach(i, w)
			children[up] = append(children[up], i)
		}
	}
	var build func(i int) tree
	build = func(i int) tree {
		x := tree{vertex: first + i}
		for _, c := range children[i] {
			x.children = append(x.children, build(c))
		}
		return x
	}
	return build(0)
}

// big are trees of many vertices: a path, a star, one that branches by 2, and ones that come mixed.
func big(first, many int) []tree {
	return []tree{
		grown(first, many, func(i int, w uint64) int { return i - 1 }),
		grown(first, many, func(i int, w uint64) int { return 0 }),
		grown(first, many, func(i int, w uint64) int { return (i - 1) / 2 }),
		grown(first, many, func(i int, w uint64) int { return int(w % uint64(i)) }),
		grown(first, many, func(i int, w uint64) int { return i - 1 - int(w%uint64(min(i, 3))) }),
	}
}

func checkTour(t *testing.T, x tree) {
	t.Helper()
	l := x.tour()
	if !Right(l) {
		t.Errorf("Right(%v): false", l)
	}
	if got := Vertices(l); !slices.Equal(got, x.vertices()) {
		t.Errorf("Vertices(%v): %v, want %v", l, got, x.vertices())
	}
	if got := Edges(l); !slices.Equal(got, x.edges()) {
		t.Errorf("Edges(%v): %v, want %v", l, got, x.edges())
	}
	if !slices.Equal(l, x.tour()) {
		t.Errorf("the list became %v, it was %v", l, x.tour())
	}
}

// checkNoTour asks of a list that is none all that may be asked; u and v are in it, or not.
func checkNoTour(t *testing.T, l []int, u, v int) {
	t.Helper()
	kept := slices.Clone(l)
	if Right(l) {
		t.Errorf("Right(%v): true", l)
	}
	if got := Vertices(l); len(got) > 0 {
		t.Errorf("Vertices(%v): %v, want nothing", l, got)
	}
	if got := Edges(l); len(got) > 0 {
		t.Errorf("Edges(%v): %v, want nothing", l, got)
	}
	checkReroot(t, l, u, nil, api.ErrArg)
	checkLink(t, l, []int{v}, u, v, nil, api.ErrArg)
	checkLink(t, []int{u}, l, u, v, nil, api.ErrArg)
	checkLink(t, l, l, u, v, nil, api.ErrArg)
	checkCut(t, l, u, v, nil, nil, api.ErrArg)
	if !slices.Equal(l, kept) {
		t.Errorf("the list became %v, it was %v", l, kept)
	}
}

func checkReroot(t *testing.T, l []int, v int, want []int, err api.Errno) {
	t.Helper()
	kept := slices.Clone(l)
	got, e := Reroot(l, v)
	if e != err || !slices.Equal(got, want) {
		t.Errorf("Reroot(%v, %d): %v, %d, want %v, %d", kept, v, got, e, want, err)
	}
	checkAsItWas(t, l, kept)
}

func checkLink(t *testing.T, a, b []int, u, v int, want []int, err api.Errno) {
	t.Helper()
	c, d := slices.Clone(a), slices.Clone(b)
	got, e := Link(a, b, u, v)
	if e != err || !slices.Equal(got, want) {
		t.Errorf("Link(%v, %v, %d, %d): %v, %d, want %v, %d", c, d, u, v, got, e, want, err)
	}
	checkAsItWas(t, a, c)
	checkAsItWas(t, b, d)
}

func checkCut(t *testing.T, l []int, u, v int, rest, below []int, err api.Errno) {
	t.Helper()
	kept := slices.Clone(l)
	x, y, e := Cut(l, u, v)
	if e != err || !slices.Equal(x, rest) || !slices.Equal(y, below) {
		t.Errorf("Cut(%v, %d, %d): %v, %v, %d, want %v, %v, %d", kept, u, v, x, y, e, rest, below, err)
	}
	checkAsItWas(t, l, kept)
}

func checkAsItWas(t *testing.T, l, kept []int) {
	t.Helper()
	if !slices.Equal(l, kept) {
		t.Errorf("what was handed in became %v, it was %v", l, kept)
	}
}

// sorted are the edges in an order that does not hang on the tour's root.
func sorted(l []api.Edge) []api.Edge {
	l = slices.Clone(l)
	slices.SortFunc(l, func(a, b api.Edge) int { return slices.Compare([]int{a.U, a.V}, []int{b.U, b.V}) })
	return l
}

// P8.1
func TestTourByHand(t *testing.T) {
	l := []int{5, 3, 9, 3, 5, -2, 5}
	if !Right(l) {
		t.Error("Right: false")
	}
	if v := Vertices(l); !slices.Equal(v, []int{5, 3, 9, -2}) {
		t.Errorf("Vertices: %v", v)
	}
	if e := Edges(l); !slices.Equal(e, []api.Edge{{U: 3, V: 5}, {U: 3, V: 9}, {U: -2, V: 5}}) {
		t.Errorf("Edges: %v", e)
	}
}

// P8.1: a tree of one vertex, whichever it is, has a tour of one place, and no edges.
func TestTourOfOneVertex(t *testing.T) {
	for _, v := range labels() {
		checkTour(t, tree{vertex: v})
		if e := Edges([]int{v}); len(e) > 0 {
			t.Errorf("Edges of %d alone: %v", v, e)
		}
		checkReroot(t, []int{v}, v, []int{v}, api.OK)
		checkReroot(t, []int{v}, v^1, nil, api.ErrNone)
		checkCut(t, []int{v}, v, v, nil, nil, api.ErrNone)
		checkCut(t, []int{v}, v, v^1, nil, nil, api.ErrNone)
	}
}

// P8.1, P8.2: lists that are no tours.
func TestNoTours(t *testing.T) {
	for _, l := range [][]int{
		// It begins with no vertex.
		nil,
		{},
		// It does not end at its root.
		{0, 1},
		{0, 1, 2, 1},
		{0, 1, 0, 2},
		{0, 1, 2, 1, 3},
		{-1, 0},
		{math.MaxInt, 0, math.MinInt},
		// It goes on to where it is: neither a child nor a parent.
		{0, 0},
		{-1, -1},
		{math.MinInt, math.MinInt},
		{0, 0, 0},
		{-1, -1, -1},
		{1, 0, 0, 1},
		{0, 1, 1, 0},
		{0, 1, 0, 0},
		// It goes up past the parent.
		{0, 1, 2, 0},
		{0, 1, 2, 3, 1, 0},
		{0, 1, 2, 3, 0},
		{0, 1, 2, 0, 2, 1, 0},
		// It goes down to a vertex that was named ahead.
		{0, 1, 0, 1, 0},
		{1, 2, 1, 3, 1, 2, 1},
		{0, 1, 2, 1, 2, 1, 0},
		{0, 1, 0, 2, 1, 2, 0},
		{0, 1, 2, 1, 0, 2, 0},
		{0, 1, 0, 2, 0, 1, 0},
		{0, 1, 0, 2, 0, 2, 1},
		{0, 1, 2, 3, 2, 3, 2, 1, 0},
	} {
		for _, u := range []int{0, 1, 7} {
			checkNoTour(t, l, u, 0)
			checkNoTour(t, l, u, 1)
			checkNoTour(t, l, u, 8)
		}
	}
}

// P8.1: all lists of up to seven places of four vertices, and of nine of three: just the tours of trees are tours.
func TestAllShortLists(t *testing.T) {
	for _, c := range []struct {
		vertices []int
		places   int
	}{{labels()[:4], 7}, {labels()[1:4], 9}, {[]int{0, 1, 2, 3, 4}, 6}} {
		tours := map[[9]int]tree{}
		for many := range len(c.vertices) {
			for _, l := range choices(c.vertices, many+1) {
				for _, x := range shapes(l) {
					if list := x.tour(); len(list) <= c.places {
						tours[key(list)] = x
					}
				}
			}
		}
		for places := range c.places + 1 {
			found := 0
			for _, l := range lists(c.vertices, places) {
				x, is := tours[key(l)]
				is = is && slices.Equal(x.tour(), l)
				if is {
					found++
					checkTour(t, x)
				} else if Right(l) || len(Vertices(l)) > 0 || len(Edges(l)) > 0 {
					t.Errorf("%v: %v, %v, %v", l, Right(l), Vertices(l), Edges(l))
				}
			}
			if (found > 0) != (places%2 == 1 && places < 2*len(c.vertices)) {
				t.Errorf("%d tours of %d places", found, places)
			}
		}
	}
}

// key is a list as a map takes it; places that are none are 0, so what it finds is held against the list once more.
func key(l []int) (k [9]int) {
	copy(k[:], l)
	return k
}

// lists are all lists of that many places.
func lists(vertices []int, places int) [][]int {
	all := [][]int{nil}
	for range places {
		var longer [][]int
		for _, l := range all {
			for _, v := range vertices {
				longer = append(longer, slices.Concat(l, []int{v}))
			}
		}
		all = longer
	}
	return all
}

// P8.1
func TestToursOfAllSmallTrees(t *testing.T) {
	for many := range 5 {
		for _, l := range choices(labels()[:5], many+1) {
			for _, x := range shapes(l) {
				checkTour(t, x)
			}
		}
	}
}

// P8.1: tours of many places, and such with one place that is left out, changed or there twice.
func TestBigTours(t *testing.T) {
	for _, x := range big(-30, 120) {
		checkTour(t, x)
		l := x.tour()
		for i := range l {
			checkNoTour(t, slices.Concat(l[:i], l[i+1:]), l[i], l[0])
			checkNoTour(t, slices.Concat(l[:i+1], l[i:]), l[i], l[0])
			changed := slices.Clone(l)
			changed[i] = 1000
			if leaf := i > 0 && i+1 < len(l) && l[i-1] == l[i+1] && count(l, l[i]) == 1; !leaf {
				checkNoTour(t, changed, l[i], l[0])
			}
		}
		checkNoTour(t, slices.Concat(l, l[1:2]), l[0], l[1])
		checkNoTour(t, slices.Concat(l, l[1:]), l[0], l[1])
	}
	for _, x := range big(7, 3000) {
		checkTour(t, x)
	}
}

func count(l []int, v int) int {
	many := 0
	for _, x := range l {
		if x == v {
			many++
		}
	}
	return many
}

// P8.2
func TestRerootByHand(t *testing.T) {
	l := []int{0, 1, 2, 1, 3, 1, 0, -4, 0}
	checkReroot(t, l, 0, []int{0, 1, 2, 1, 3, 1, 0, -4, 0}, api.OK)
	checkReroot(t, l, 1, []int{1, 2, 1, 3, 1, 0, -4, 0, 1}, api.OK)
	checkReroot(t, l, 2, []int{2, 1, 3, 1, 0, -4, 0, 1, 2}, api.OK)
	checkReroot(t, l, 3, []int{3, 1, 0, -4, 0, 1, 2, 1, 3}, api.OK)
	checkReroot(t, l, -4, []int{-4, 0, 1, 2, 1, 3, 1, 0, -4}, api.OK)
	checkReroot(t, l, 4, nil, api.ErrNone)
	checkReroot(t, l, -1, nil, api.ErrNone)
	checkReroot(t, l, math.MinInt, nil, api.ErrNone)
	checkReroot(t, []int{0, 1}, 0, nil, api.ErrArg)
	checkReroot(t, []int{0, 1}, 7, nil, api.ErrArg)
	checkReroot(t, nil, 0, nil, api.ErrArg)
}

// checkRerootOfAll asks of each vertex of x, and holds what is answered also against the chapter's sentence.
func checkRerootOfAll(t *testing.T, x tree) {
	t.Helper()
	l := x.tour()
	for _, v := range x.vertices() {
		want := x.hung(t, v)
		checkReroot(t, l, v, want.tour(), api.OK)
		at := slices.Index(l, v)
		checkReroot(t, l, v, slices.Concat(l[at:], l[1:at+1]), api.OK)
	}
}

// P8.2, P8.3
func TestRerootOfAllSmallTrees(t *testing.T) {
	for _, x := range small() {
		checkRerootOfAll(t, x)
		checkReroot(t, x.tour(), 99, nil, api.ErrNone)
		checkReroot(t, x.tour(), -99, nil, api.ErrNone)
	}
}

// P8.2, P8.3
func TestRerootOfBigTrees(t *testing.T) {
	for _, x := range big(-50, 100) {
		checkRerootOfAll(t, x)
		checkReroot(t, x.tour(), 50, nil, api.ErrNone)
		checkReroot(t, x.tour(), -51, nil, api.ErrNone)
	}
}

// P8.3: the same edges and vertices, however often it is rerooted.
func TestRerootedAgainAndAgain(t *testing.T) {
	for _, x := range append(small(), big(-20, 60)...) {
		l, vertices := x.tour(), x.vertices()
		edges := sorted(x.edges())
		for _, w := range spread.Words(30) {
			v := vertices[w>>20%uint64(len(vertices))]
			r, err := Reroot(l, v)
			if err != api.OK || !Right(r) || r[0] != v {
				t.Fatalf("Reroot(%v, %d): %v, %d", l, v, r, err)
			}
			if got := sorted(Edges(r)); !slices.Equal(got, edges) {
				t.Errorf("Edges of %v rerooted to %d: %v, want %v", l, v, got, edges)
			}
			l = r
		}
	}
}

// P8.2: the first one is the chapter's example.
func TestLinkByHand(t *testing.T) {
	checkLink(t, []int{1}, []int{2}, 1, 2, []int{1, 2, 1}, api.OK)
	checkLink(t, []int{2}, []int{1}, 2, 1, []int{2, 1, 2}, api.OK)
	checkLink(t, []int{0, 1, 0, 2, 0}, []int{7, 8, 7}, 0, 7, []int{0, 1, 0, 2, 0, 7, 8, 7, 0}, api.OK)
	checkLink(t, []int{0, 1, 0, 2, 0}, []int{7, 8, 7}, 1, 7, []int{1, 0, 2, 0, 1, 7, 8, 7, 1}, api.OK)
	checkLink(t, []int{0, 1, 0, 2, 0}, []int{7, 8, 7}, 2, 8, []int{2, 0, 1, 0, 2, 8, 7, 8, 2}, api.OK)
	checkLink(t, []int{7, 8, 7}, []int{0, 1, 0, 2, 0}, 8, 1, []int{8, 7, 8, 1, 0, 2, 0, 1, 8}, api.OK)
	checkLink(t, []int{-1}, []int{math.MinInt}, -1, math.MinInt, []int{-1, math.MinInt, -1}, api.OK)
}

// P8.2: of several errors the one that the chapter names first.
func TestErrorsOfLink(t *testing.T) {
	right, other, alike, none := []int{0, 1, 0, 2, 0}, []int{7, 8, 7}, []int{8, 2, 8}, []int{0, 1, 2, 0}
	for _, c := range []struct {
		a, b []int
		u, v int
		err  api.Errno
	}{
		{none, other, 0, 7, api.ErrArg},
		{other, none, 7, 0, api.ErrArg},
		{none, none, 0, 1, api.ErrArg},
		{nil, other, 7, 7, api.ErrArg},
		{other, nil, 7, 7, api.ErrArg},
		{nil, nil, 0, 0, api.ErrArg},
		// u or v is not there either.
		{none, other, 9, 7, api.ErrArg},
		{none, other, 0, 9, api.ErrArg},
		{right, none, 9, 0, api.ErrArg},
		{right, none, 0, 9, api.ErrArg},
		// A vertex is in both, too.
		{right, none, 0, 1, api.ErrArg},
		{none, right, 0, 1, api.ErrArg},
		// u or v is in the other one alone, or in none.
		{right, other, 7, 7, api.ErrNone},
		{right, other, 0, 0, api.ErrNone},
		{right, other, 7, 0, api.ErrNone},
		{right, other, 3, 7, api.ErrNone},
		{right, other, 0, 9, api.ErrNone},
		{right, other, -1, 7, api.ErrNone},
		{right, other, 0, -1, api.ErrNone},
		// A vertex is in both, too.
		{right, alike, 8, 2, api.ErrNone},
		{right, alike, 2, 0, api.ErrNone},
		{right, right, 0, 9, api.ErrNone},
		{right, right, 9, 0, api.ErrNone},
		// A vertex is in both: that by which they are linked, a root, or another one.
		{right, alike, 0, 8, api.ErrThere},
		{alike, right, 8, 0, api.ErrThere},
		{right, alike, 2, 2, api.ErrThere},
		{right, right, 0, 1, api.ErrThere},
		{right, right, 0, 0, api.ErrThere},
		{right, []int{0}, 1, 0, api.ErrThere},
		{right, []int{2}, 1, 2, api.ErrThere},
		{[]int{1}, right, 1, 2, api.ErrThere},
		{[]int{0}, []int{0}, 0, 0, api.ErrThere},
		{[]int{-1, math.MinInt, -1}, []int{5, math.MinInt, 5}, -1, 5, api.ErrThere},
	} {
		checkLink(t, c.a, c.b, c.u, c.v, nil, c.err)
	}
}

// checkLinkOfAll links by each vertex of both, and cuts again what was linked, from both of its ends.
func checkLinkOfAll(t *testing.T, x, y tree) {
	t.Helper()
	a, b := x.tour(), y.tour()
	for _, u := range x.vertices() {
		for _, v := range y.vertices() {
			up, down := x.hung(t, u), y.hung(t, v)
			l := tree{u, slices.Concat(up.children, []tree{down})}
			checkLink(t, a, b, u, v, l.tour(), api.OK)
			checkTour(t, l)
			checkCut(t, l.tour(), u, v, up.tour(), down.tour(), api.OK)
			checkCut(t, l.tour(), v, u, down.tour(), up.tour(), api.OK)
		}
	}
}

// P8.2, P8.3
func TestLinkOfAllSmallTrees(t *testing.T) {
	for i := range 4 {
		for j := range 4 {
			for _, x := range shapes([]int{0, -1, math.MaxInt, math.MinInt}[:i+1]) {
				for _, y := range shapes([]int{-7, 1, 1 << 32, 9}[:j+1]) {
					checkLinkOfAll(t, x, y)
				}
			}
		}
	}
}

// P8.2, P8.3
func TestLinkOfBigTrees(t *testing.T) {
	others := big(100, 9)
	for i, x := range big(-30, 40) {
		checkLinkOfAll(t, x, others[i])
		checkLinkOfAll(t, others[len(others)-1-i], x)
		checkLink(t, x.tour(), grown(9, 5, func(i int, w uint64) int { return 0 }).tour(), -30, 9, nil, api.ErrThere)
		checkLink(t, grown(9, 5, func(i int, w uint64) int { return i - 1 }).tour(), x.tour(), 9, 0, nil, api.ErrThere)
	}
}

// P8.2
func TestCutByHand(t *testing.T) {
	l := []int{0, 1, 2, 1, 3, 1, 0, -4, 0}
	checkCut(t, l, 0, 1, []int{0, -4, 0}, []int{1, 2, 1, 3, 1}, api.OK)
	checkCut(t, l, 1, 0, []int{1, 2, 1, 3, 1}, []int{0, -4, 0}, api.OK)
	checkCut(t, l, 1, 2, []int{1, 3, 1, 0, -4, 0, 1}, []int{2}, api.OK)
	checkCut(t, l, 2, 1, []int{2}, []int{1, 3, 1, 0, -4, 0, 1}, api.OK)
	checkCut(t, l, 3, 1, []int{3}, []int{1, 0, -4, 0, 1, 2, 1}, api.OK)
	checkCut(t, l, -4, 0, []int{-4}, []int{0, 1, 2, 1, 3, 1, 0}, api.OK)
	checkCut(t, l, 0, -4, []int{0, 1, 2, 1, 3, 1, 0}, []int{-4}, api.OK)
	checkCut(t, []int{1, 2, 1}, 1, 2, []int{1}, []int{2}, api.OK)
	checkCut(t, []int{1, 2, 1}, 2, 1, []int{2}, []int{1}, api.OK)
}

// P8.2: two vertices that are no edge, one twice, and ones that are not there.
func TestCutOfWhatIsNoEdge(t *testing.T) {
	l := []int{0, 1, 2, 1, 3, 1, 0, -4, 0}
	for _, c := range [][2]int{{0, 2}, {2, 0}, {2, 3}, {3, 2}, {1, -4}, {-4, 1}, {0, 0}, {1, 1}, {2, 2}, {-4, -4}, {0, 9}, {9, 0}, {2, 9}, {9, 9}, {8, 9}, {-1, 0}, {math.MinInt, math.MaxInt}} {
		checkCut(t, l, c[0], c[1], nil, nil, api.ErrNone)
	}
	for _, l := range [][]int{nil, {0, 1}, {0, 1, 0, 1, 0}, {0, 1, 0, 1}} {
		checkCut(t, l, 0, 1, nil, nil, api.ErrArg)
		checkCut(t, l, 5, 6, nil, nil, api.ErrArg)
	}
}

// checkCutOfAll asks of each two vertices of x, and links again what was cut.
func checkCutOfAll(t *testing.T, x tree) {
	t.Helper()
	l, edges := x.tour(), x.edges()
	for _, u := range x.vertices() {
		for _, v := range x.vertices() {
			if u == v || !slices.Contains(edges, between(u, v)) {
				checkCut(t, l, u, v, nil, nil, api.ErrNone)
				continue
			}
			rest, below := x.hung(t, u).without(t, v)
			checkCut(t, l, u, v, rest.tour(), below.tour(), api.OK)
			checkLinkedAgain(t, rest.tour(), below.tour(), u, v, edges)
		}
	}
}

// checkLinkedAgain asks for a tour of the same edges.
func checkLinkedAgain(t *testing.T, a, b []int, u, v int, edges []api.Edge) {
	t.Helper()
	l, err := Link(a, b, u, v)
	if got := Edges(l); err != api.OK || !slices.Equal(sorted(got), sorted(edges)) {
		t.Errorf("Link(%v, %v, %d, %d): %v, %d: the edges %v, want %v", a, b, u, v, l, err, got, edges)
	}
}

// P8.2, P8.3
func TestCutOfAllSmallTrees(t *testing.T) {
	for _, x := range small() {
		checkCutOfAll(t, x)
	}
}

// P8.2, P8.3
func TestCutOfBigTrees(t *testing.T) {
	for _, x := range big(-25, 50) {
		checkCutOfAll(t, x)
	}
}

// wipe writes into all of a list, and behind it as far as it has room.
func wipe(l []int) {
	l = l[:cap(l)]
	for i := range l {
		l[i] = 1000
	}
}

// P8.2: what is written into an answer, or behind it, is told nowhere else.
func TestAnswersAreNewMemory(t *testing.T) {
	for _, x := range small() {
		l, others := x.tour(), []int{2000, 3000, 2000}
		wipe(Vertices(l))
		for _, v := range x.vertices() {
			r, _ := Reroot(l, v)
			wipe(r)
			r, _ = Link(l, others, v, 2000)
			wipe(r)
			r, _ = Link(others, l, 2000, v)
			wipe(r)
		}
		for _, e := range x.edges() {
			rest, below, _ := Cut(l, e.U, e.V)
			kept := slices.Clone(below)
			wipe(rest)
			checkAsItWas(t, below, kept)
			wipe(below)
		}
		checkAsItWas(t, l, x.tour())
		checkAsItWas(t, others, []int{2000, 3000, 2000})
	}
}

// P8.1, P8.2: trees that are as deep, or as broad, as can be are gone around step by step.
func TestLongTours(t *testing.T) {
	const many = 50000
	path := make([]int, 2*many-1)
	star := make([]int, 2*many-1)
	for i := range path {
		path[i] = min(i, 2*many-2-i)
		star[i] = i % 2 * (i + 1) / 2
	}
	for _, l := range [][]int{path, star} {
		if !Right(l) || len(Vertices(l)) != many || len(Edges(l)) != many-1 {
			t.Fatalf("%v, %d vertices, %d edges", Right(l), len(Vertices(l)), len(Edges(l)))
		}
		checkReroot(t, l, many, nil, api.ErrNone)
		at := slices.Index(l, many/2)
		checkReroot(t, l, many/2, slices.Concat(l[at:], l[1:at+1]), api.OK)
	}
	half, last := many/2, len(path)-1
	checkCut(t, path, half, half+1, slices.Concat(path[last-half:], path[1:half+1]), path[half+1:last-half], api.OK)
	checkCut(t, star, 0, many-1, star[:len(star)-2], []int{many - 1}, api.OK)
	checkLink(t, star, []int{-1}, 0, -1, slices.Concat(star, []int{-1, 0}), api.OK)
}
