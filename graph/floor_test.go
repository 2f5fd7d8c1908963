package graph_test

import (
	"slices"
	"testing"

	"braid/api"
	"braid/graph"
)

// tx is a committed attempt that begins at step 0, reads these objects and writes those.
func tx(final, end int, reads, writes []int) api.Tx {
	t := api.Tx{Final: final, End: end, Outcome: api.EndCommit}
	for _, x := range reads {
		t.Saws = append(t.Saws, api.Saw{Object: x})
	}
	for _, x := range writes {
		t.Writes = append(t.Writes, api.Wrote{Object: x})
	}
	return t
}

// but is an attempt with something else in it.
func but(t api.Tx, change func(*api.Tx)) api.Tx {
	t.Saws, t.Writes = slices.Clone(t.Saws), slices.Clone(t.Writes)
	change(&t)
	return t
}

func txs(list ...api.Tx) []api.Tx { return list }

func objects(list ...int) []int { return list }

func read(from, to, x int) api.Edge {
	return api.Edge{From: from, To: to, Kind: api.EdgeRead, Object: x}
}

func write(from, to, x int) api.Edge {
	return api.Edge{From: from, To: to, Kind: api.EdgeWrite, Object: x}
}

func over(from, to, x int) api.Edge {
	return api.Edge{From: from, To: to, Kind: api.EdgeOver, Object: x}
}

// edges are edges by two numbers each.
func edges(pairs ...int) []api.Edge {
	var list []api.Edge
	for i := 0; i < len(pairs); i += 2 {
		list = append(list, api.Edge{From: pairs[i], To: pairs[i+1]})
	}
	return list
}

// chain leads from 0 to 1 and so on to n - 1.
func chain(n int) []api.Edge {
	var list []api.Edge
	for i := 1; i < n; i++ {
		list = append(list, api.Edge{From: i - 1, To: i})
	}
	return list
}

// ring is a chain that is closed.
func ring(n int) []api.Edge { return append(chain(n), api.Edge{From: n - 1, To: 0}) }

// upTo lists 0 to n - 1.
func upTo(n int) []int {
	list := make([]int, n)
	for i := range list {
		list[i] = i
	}
	return list
}

func builds(t *testing.T, list []api.Tx, want ...api.Edge) {
	t.Helper()
	if got, e := graph.Build(list); e != api.OK || !slices.Equal(got, want) {
		t.Fatalf("Build = %v, %d, want %v", got, e, want)
	}
}

func notBuilt(t *testing.T, list []api.Tx) {
	t.Helper()
	if got, e := graph.Build(list); e != api.ErrTxs || got != nil {
		t.Fatalf("Build = %v, %d", got, e)
	}
}

func orders(t *testing.T, n int, list []api.Edge, all bool, want ...int) {
	t.Helper()
	if got, is, e := graph.Order(n, list); e != api.OK || is != all || !slices.Equal(got, want) {
		t.Fatalf("Order = %v, %v, %d, want %v, %v", got, is, e, want, all)
	}
}

func circles(t *testing.T, n int, list []api.Edge, want ...int) {
	t.Helper()
	if got, e := graph.Cycle(n, list); e != api.OK || !slices.Equal(got, want) {
		t.Fatalf("Cycle = %v, %d, want %v", got, e, want)
	}
}

func falls(t *testing.T, n int, list []api.Edge, want ...[]int) {
	t.Helper()
	if got, e := graph.Parts(n, list); e != api.OK || !slices.EqualFunc(got, want, slices.Equal) {
		t.Fatalf("Parts = %v, %d, want %v", got, e, want)
	}
}

func leads(t *testing.T, n int, list []api.Edge, from, to int, want bool) {
	t.Helper()
	if got, e := graph.Reaches(n, list, from, to); e != api.OK || got != want {
		t.Fatalf("Reaches from %d to %d = %v, %d, want %v", from, to, got, e, want)
	}
}
