package spread

import (
	"slices"

	"raftsman/api"
)

// Path are the edges from each vertex to the next one, from the first one up.
func Path(n int) []api.Edge {
	var l []api.Edge
	for v := 1; v < n; v++ {
		l = append(l, api.Edge{U: v - 1, V: v})
	}
	return l
}

// Turned are the edges the other way round: their order, and the ends of each.
func Turned(l []api.Edge) []api.Edge {
	l = slices.Clone(l)
	slices.Reverse(l)
	for i, e := range l {
		l[i].U, l[i].V = e.V, e.U
	}
	return l
}

// Mixed are that many edges between n vertices, some of them from a vertex to itself.
func Mixed(n, many int) []api.Edge {
	l := make([]api.Edge, many)
	for i, w := range Words(many) {
		l[i] = api.Edge{U: int(w >> 8 % uint64(n)), V: int(w >> 33 % uint64(n)), Tier: i - 3}
	}
	return l
}

// Shapes are edges of n vertices, n above 2: none, paths, stars, pairs, rings, trees that branch by 2, and ones that come mixed.
func Shapes(n int) [][]api.Edge {
	var star, last, pairs, tree, loops []api.Edge
	for v := range n {
		loops = append(loops, api.Edge{U: v, V: v})
		if v > 0 {
			star = append(star, api.Edge{U: 0, V: v})
			last = append(last, api.Edge{U: n - 1, V: v - 1})
			tree = append(tree, api.Edge{U: (v - 1) / 2, V: v})
		}
		if v < n-1-v {
			pairs = append(pairs, api.Edge{U: v, V: n - 1 - v})
		}
	}
	ring := append(Path(n), api.Edge{U: n - 1, V: 0})
	list := [][]api.Edge{nil, Path(n), star, last, pairs, tree, loops, ring, Path(n)[:n/2], Path(n)[n/2:]}
	for _, many := range []int{1, n / 4, n / 2, n, 2 * n} {
		list = append(list, Mixed(n, many))
	}
	for _, l := range slices.Clone(list) {
		list = append(list, Turned(l))
	}
	return list
}

// Graphs are all sets of edges of n vertices, in the order of their ends, the Tier of each how many stand ahead of it.
func Graphs(n int) [][]api.Edge {
	list := [][]api.Edge{nil}
	for u := range n {
		for v := u + 1; v < n; v++ {
			for _, l := range slices.Clone(list) {
				list = append(list, slices.Concat(l, []api.Edge{{U: u, V: v, Tier: len(l)}}))
			}
		}
	}
	return list
}

// Loose are edges in a list that has room behind them, that is nobody's to write into.
func Loose(l []api.Edge) []api.Edge {
	return append(slices.Clone(l), api.Edge{U: 70, V: 80, Tier: 90}, api.Edge{U: 71, V: 81, Tier: 91})[:len(l)]
}

// AsItWas tells whether a Loose list is still as kept is, and what is behind it as it was.
func AsItWas(l, kept []api.Edge) bool {
	many := len(kept) + 2
	return len(l) == len(kept) && slices.Equal(l[:many], Loose(kept)[:many])
}
