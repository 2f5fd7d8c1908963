package graph

import (
	"cmp"
	"slices"

	"braid/api"
)

// attempt is a committed attempt as its edges need it. Each object that it reads or writes stands here once, however
// often it was told or put, so that no edge comes twice.
type attempt struct {
	node, final, end int
	reads, writes    []int
}

// mayStand tells whether the committed attempts have steps by which they can be told apart; the others are not looked at.
func mayStand(txs []api.Tx) bool {
	ends := map[int]struct{}{}
	for _, t := range txs {
		if t.Outcome != api.EndCommit {
			continue
		}
		if _, twice := ends[t.End]; twice || t.Final < 0 || t.End <= t.Begin {
			return false
		}
		ends[t.End] = struct{}{}
	}
	return true
}

func committed(txs []api.Tx) []attempt {
	var list []attempt
	for i, t := range txs {
		if t.Outcome == api.EndCommit {
			list = append(list, attempt{node: i, final: t.Final, end: t.End, reads: readsOf(t.Saws), writes: writesOf(t.Writes)})
		}
	}
	return list
}

// readsOf tells what an attempt was told by another one and has held to its end.
func readsOf(saws []api.Saw) []int {
	var objects []int
	for _, s := range saws {
		if !s.Own && !s.Released {
			objects = append(objects, s.Object)
		}
	}
	return once(objects)
}

func writesOf(wrote []api.Wrote) []int {
	var objects []int
	for _, w := range wrote {
		objects = append(objects, w.Object)
	}
	return once(objects)
}

func once(objects []int) []int {
	slices.Sort(objects)
	return slices.Compact(objects)
}

// between tells all edges. Every edge has an attempt that writes its object: so each attempt is held against the writers
// of its own objects alone.
func between(list []attempt) []api.Edge {
	writers := map[int][]attempt{}
	for _, t := range list {
		for _, x := range t.writes {
			writers[x] = append(writers[x], t)
		}
	}
	var edges []api.Edge
	for _, t := range list {
		for _, x := range t.writes {
			edges = append(edges, ofWrite(t, writers[x], x)...)
		}
		for _, x := range t.reads {
			edges = append(edges, ofRead(t, writers[x], x)...)
		}
	}
	slices.SortFunc(edges, compare)
	return edges
}

// ofWrite tells the edges to an attempt that writes an object from those that had written it ahead of it.
func ofWrite(t attempt, writers []attempt, x int) []api.Edge {
	var edges []api.Edge
	for _, u := range writers {
		if u.end < t.end {
			edges = append(edges, api.Edge{From: u.node, To: t.node, Kind: api.EdgeWrite, Object: x})
		}
	}
	return edges
}

// ofRead tells the edges between an attempt that reads an object and the others that write it: what had been written as
// the reads were looked at for the last time was read, and what came later wrote over it.
func ofRead(t attempt, writers []attempt, x int) []api.Edge {
	var edges []api.Edge
	for _, u := range writers {
		switch {
		case u.node == t.node:
		case u.end < t.final:
			edges = append(edges, api.Edge{From: u.node, To: t.node, Kind: api.EdgeRead, Object: x})
		default:
			edges = append(edges, api.Edge{From: t.node, To: u.node, Kind: api.EdgeOver, Object: x})
		}
	}
	return edges
}

func compare(a, b api.Edge) int {
	return cmp.Or(cmp.Compare(a.From, b.From), cmp.Compare(a.To, b.To), cmp.Compare(a.Kind, b.Kind), cmp.Compare(a.Object, b.Object))
}
