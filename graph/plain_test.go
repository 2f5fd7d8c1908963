package graph_test

import (
	"slices"

	"braid/api"
)

// before lays edges in the chapter's order.
func before(a, b api.Edge) int {
	return slices.Compare([]int{a.From, a.To, a.Kind, a.Object}, []int{b.From, b.To, b.Kind, b.Object})
}

// plainBuild holds every attempt against every other one, of every object.
func plainBuild(list []api.Tx) ([]api.Edge, api.Errno) {
	if len(list) > api.MaxNodes {
		return nil, api.ErrTxs
	}
	var all []int
	for i, a := range list {
		for j, b := range list {
			if a.Outcome == api.EndCommit && (a.Final < 0 || a.End <= a.Begin || i != j && b.Outcome == api.EndCommit && a.End == b.End) {
				return nil, api.ErrTxs
			}
		}
		for _, w := range a.Writes {
			all = append(all, w.Object)
		}
	}
	found := map[api.Edge]int{}
	for t, a := range list {
		for u, b := range list {
			for _, x := range all {
				if t != u && a.Outcome == api.EndCommit && b.Outcome == api.EndCommit {
					plainEdges(found, t, u, a, b, x)
				}
			}
		}
	}
	var edges []api.Edge
	for e := range found {
		edges = append(edges, e)
	}
	slices.SortFunc(edges, before)
	return edges, api.OK
}

func plainEdges(found map[api.Edge]int, t, u int, a, b api.Tx, x int) {
	writes := func(w api.Wrote) bool { return w.Object == x }
	if !slices.ContainsFunc(b.Writes, writes) {
		return
	}
	if slices.ContainsFunc(a.Writes, writes) && b.End < a.End {
		found[write(u, t, x)]++
	}
	for _, s := range a.Saws {
		switch {
		case s.Object != x || s.Own || s.Released:
		case b.End < a.Final:
			found[read(u, t, x)]++
		default:
			found[over(t, u, x)]++
		}
	}
}

// plainOrder looks at all edges again for each node.
func plainOrder(n int, edges []api.Edge) ([]int, bool) {
	var list []int
	for {
		next := -1
		for node := n - 1; node >= 0; node-- {
			if !slices.Contains(list, node) && !slices.ContainsFunc(edges, func(e api.Edge) bool { return e.To == node && !slices.Contains(list, e.From) }) {
				next = node
			}
		}
		if next < 0 {
			return list, len(list) == n
		}
		list = append(list, next)
	}
}

// matrix tells of each two nodes whether one edge or more lead from the one to the other.
func matrix(n int, edges []api.Edge) [][]bool {
	m := make([][]bool, n)
	for i := range m {
		m[i] = make([]bool, n)
	}
	for _, e := range edges {
		m[e.From][e.To] = true
	}
	for k := range n {
		for i := range n {
			for j := range n {
				m[i][j] = m[i][j] || m[i][k] && m[k][j]
			}
		}
	}
	return m
}

func plainParts(n int, edges []api.Edge) [][]int {
	m := matrix(n, edges)
	var parts [][]int
	for i := range n {
		var part []int
		for j := range n {
			if i == j || m[i][j] && m[j][i] {
				part = append(part, j)
			}
		}
		if part[0] == i {
			parts = append(parts, part)
		}
	}
	return parts
}

// shorter lays cycles in the order of their lengths, and those of one length in the order of lists.
func shorter(a, b []int) int {
	if len(a) != len(b) {
		return len(a) - len(b)
	}
	return slices.Compare(a, b)
}

// plainCycle goes every way that has no node twice, from each node on, until a node has a cycle: of few nodes alone.
func plainCycle(n int, edges []api.Edge) []int {
	for start := range n {
		var best []int
		var walk func(list []int)
		walk = func(list []int) {
			for _, e := range edges {
				if e.From != list[len(list)-1] {
					continue
				}
				if e.To == start && (best == nil || shorter(list, best) < 0) {
					best = slices.Clone(list)
				}
				if !slices.Contains(list, e.To) {
					walk(append(slices.Clone(list), e.To))
				}
			}
		}
		walk([]int{start})
		if best != nil {
			return best
		}
	}
	return nil
}

// wideCycle keeps for each node the least of the shortest lists that lead there, made longer edge by edge: of more nodes.
func wideCycle(n int, edges []api.Edge) []int {
	for start := range n {
		best := map[int][]int{start: {start}}
		var round []int
		for changed := true; changed; {
			changed = false
			for _, e := range edges {
				from, met := best[e.From]
				if !met {
					continue
				}
				if e.To == start && (round == nil || shorter(from, round) < 0) {
					round, changed = from, true
				}
				list := append(slices.Clone(from), e.To)
				if old, met := best[e.To]; !met || shorter(list, old) < 0 {
					best[e.To], changed = list, true
				}
			}
		}
		if round != nil {
			return round
		}
	}
	return nil
}
