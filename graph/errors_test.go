package graph_test

import (
	"math"
	"testing"

	"braid/api"
	"braid/graph"
)

// refused looks that all four calls refuse a graph, with nothing beside the error.
func refused(t *testing.T, n int, list []api.Edge, from, to int, why api.Errno) {
	t.Helper()
	if got, is, e := graph.Order(n, list); got != nil || is || e != why {
		t.Fatalf("Order = %v, %v, %d, want %d", got, is, e, why)
	}
	if got, e := graph.Cycle(n, list); got != nil || e != why {
		t.Fatalf("Cycle = %v, %d, want %d", got, e, why)
	}
	if got, e := graph.Parts(n, list); got != nil || e != why {
		t.Fatalf("Parts = %v, %d, want %d", got, e, why)
	}
	notReached(t, n, list, from, to, why)
}

func notReached(t *testing.T, n int, list []api.Edge, from, to int, why api.Errno) {
	t.Helper()
	if got, e := graph.Reaches(n, list, from, to); got || e != why {
		t.Fatalf("Reaches from %d to %d = %v, %d, want %d", from, to, got, e, why)
	}
}

// ErrNodes, alone and ahead of ErrEdge.
func TestNodes(t *testing.T) {
	for _, n := range []int{-1, math.MinInt, api.MaxNodes + 1, math.MaxInt} {
		refused(t, n, nil, 0, 0, api.ErrNodes)
		refused(t, n, edges(0, 1), 0, 1, api.ErrNodes)
		refused(t, n, edges(-1, 9999), -1, math.MaxInt, api.ErrNodes)
	}
	orders(t, 0, nil, true)
	circles(t, 0, nil)
	falls(t, 0, nil)
	leads(t, api.MaxNodes, edges(api.MaxNodes-1, 0), api.MaxNodes-1, 0, true)
	leads(t, api.MaxNodes, edges(0, api.MaxNodes-1), 0, api.MaxNodes-1, true)
	orders(t, api.MaxNodes, nil, true, upTo(api.MaxNodes)...)
}

// ErrEdge: an end of an edge that is no node, first, last and alone.
func TestEdges(t *testing.T) {
	for _, n := range []int{1, 5, api.MaxNodes} {
		fine := edges(0, n-1, n-1, 0)
		for _, end := range []int{-1, n, math.MinInt, math.MaxInt} {
			for _, bad := range [][]api.Edge{edges(end, 0), edges(0, end), edges(end, end), edges(n-1, end)} {
				refused(t, n, bad, 0, 0, api.ErrEdge)
				refused(t, n, append(edges(0, n-1, n-1, 0), bad...), 0, 0, api.ErrEdge)
				refused(t, n, append(append([]api.Edge{}, bad...), fine...), 0, 0, api.ErrEdge)
				refused(t, n, bad, -1, n, api.ErrEdge)
			}
		}
		leads(t, n, fine, 0, n-1, true)
	}
	refused(t, 0, edges(0, 0), 0, 0, api.ErrEdge)
	refused(t, 2, edges(0, 2), 0, 0, api.ErrEdge) // the chapter's example 7
}

// ErrEdge of Reaches: a node that is none.
func TestNoNodes(t *testing.T) {
	list := edges(0, 1, 1, 2)
	for _, bad := range []int{-1, 3, math.MinInt, math.MaxInt} {
		notReached(t, 3, list, bad, 0, api.ErrEdge)
		notReached(t, 3, list, 0, bad, api.ErrEdge)
		notReached(t, 3, list, bad, bad, api.ErrEdge)
	}
	notReached(t, 0, nil, 0, 0, api.ErrEdge)
	notReached(t, api.MaxNodes, nil, api.MaxNodes, 0, api.ErrEdge)
	notReached(t, 3, edges(0, 0), 0, 3, api.ErrEdge) // where edges lead round, too
}
