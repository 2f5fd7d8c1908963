package graph_test

import (
	"slices"
	"testing"

	"braid/api"
)

// The chapter's example 4.
func TestOrderOfTheChapter(t *testing.T) {
	orders(t, 4, edges(2, 0, 3, 1), true, 2, 0, 3, 1)
	orders(t, 3, edges(0, 1, 1, 2, 2, 1), false, 0)
	orders(t, 0, nil, true)
	orders(t, 2, edges(1, 1), false, 0)
}

// P20.2: each time the least that can come.
func TestOrder(t *testing.T) {
	for _, c := range []struct {
		what  string
		n     int
		edges []api.Edge
		all   bool
		want  []int
	}{
		{"no edges", 5, nil, true, upTo(5)},
		{"one node", 1, nil, true, upTo(1)},
		{"one node that leads to itself", 1, edges(0, 0), false, nil},
		{"edges twice, out of order", 4, edges(2, 1, 3, 2, 2, 1, 3, 2, 1, 0, 2, 1), true, objects(3, 2, 1, 0)},
		{"a lesser one that becomes free comes at once", 5, edges(3, 0, 1, 3), true, objects(1, 2, 3, 0, 4)},
		{"one that waits for two", 4, edges(1, 0, 3, 0), true, objects(1, 2, 3, 0)},
		{"an edge to itself keeps what it leads to", 5, edges(1, 1, 1, 2, 2, 4), false, objects(0, 3)},
		{"a node with an edge to itself behind others", 3, edges(0, 1, 1, 1), false, objects(0, 2)},
		{"a circle behind nodes that come and ahead of nodes that do not", 7, edges(0, 3, 3, 4, 4, 3, 4, 1, 1, 5), false, objects(0, 2, 6)},
		{"all in a circle", 4, ring(4), false, nil},
		{"two circles", 5, edges(0, 1, 1, 0, 2, 3, 3, 2), false, objects(4)},
		{"kinds and objects are not looked at", 3, []api.Edge{{From: 2, To: 0, Kind: 9, Object: -4}, {From: 2, To: 1, Kind: -1, Object: 7}, {From: 2, To: 0, Kind: 1}}, true, objects(2, 0, 1)},
	} {
		t.Run(c.what, func(t *testing.T) { orders(t, c.n, c.edges, c.all, c.want...) })
	}
}

// P20.2: as many as may be wait at once, and one behind the other.
func TestOrderOfMany(t *testing.T) {
	n := api.MaxNodes
	orders(t, n, nil, true, upTo(n)...)
	orders(t, n, chain(n), true, upTo(n)...)
	var down, star []api.Edge
	for i := n - 1; i > 0; i-- {
		down = append(down, api.Edge{From: i, To: i - 1})
		star = append(star, api.Edge{From: n - 1, To: i - 1})
	}
	turned := upTo(n)
	slices.Reverse(turned)
	orders(t, n, down, true, turned...)
	orders(t, n, star, true, append([]int{n - 1}, upTo(n-1)...)...)
	orders(t, n, ring(n), false)
	orders(t, n, append(chain(n), api.Edge{From: n - 1, To: n - 2}), false, upTo(n-2)...)
}

// The chapter's example 5.
func TestCycleOfTheChapter(t *testing.T) {
	circles(t, 5, edges(0, 1, 1, 2, 2, 0, 1, 3, 3, 1, 2, 1), 0, 1, 2)
	circles(t, 5, edges(1, 2, 2, 0, 1, 3, 3, 1, 2, 1), 1, 2)
	circles(t, 3, edges(0, 1, 1, 2))
	circles(t, 2, edges(1, 1, 0, 1), 1)
}

// P20.3: the least node, the shortest through it, the least list.
func TestCycle(t *testing.T) {
	for _, c := range []struct {
		what  string
		n     int
		edges []api.Edge
		want  []int
	}{
		{"no nodes", 0, nil, nil},
		{"no edges", 3, nil, nil},
		{"none, though two ways lead to one node", 4, edges(0, 1, 0, 2, 1, 3, 2, 3), nil},
		{"one node", 1, edges(0, 0), objects(0)},
		{"two nodes", 2, edges(1, 0, 0, 1), objects(0, 1)},
		{"itself is shorter", 3, edges(0, 1, 1, 0, 0, 0), objects(0)},
		{"itself, but of another node of the part", 3, edges(0, 1, 1, 0, 1, 1), objects(0, 1)},
		{"a shorter one elsewhere", 6, edges(0, 4, 4, 2, 2, 0, 1, 3, 3, 1, 5, 5), objects(0, 4, 2)},
		{"a shorter one within the same part", 5, edges(0, 4, 4, 2, 2, 0, 2, 4), objects(0, 4, 2)},
		{"reached from a lesser node that lies on none", 5, edges(0, 1, 1, 3, 3, 4, 4, 3, 0, 4), objects(3, 4)},
		{"a lesser node that it leads to lies on none", 5, edges(3, 4, 4, 3, 4, 0, 0, 1), objects(3, 4)},
		{"the least second node", 6, edges(0, 5, 5, 1, 1, 0, 0, 3, 3, 4, 4, 0, 0, 4), objects(0, 4)},
		{"the least second node of those as short", 6, edges(0, 5, 5, 1, 1, 0, 0, 3, 3, 4, 4, 0), objects(0, 3, 4)},
		{"the least third node", 6, edges(0, 5, 5, 4, 5, 2, 5, 3, 4, 0, 3, 0, 2, 0), objects(0, 5, 2)},
		{"a lesser second node that leads a longer way", 6, edges(0, 1, 1, 2, 2, 3, 3, 0, 0, 5, 5, 0), objects(0, 5)},
		{"a lesser second node that leads nowhere", 6, edges(0, 1, 1, 2, 0, 5, 5, 0), objects(0, 5)},
		{"a lesser third node that does not lead on", 6, edges(0, 4, 4, 1, 4, 2, 2, 0, 1, 5), objects(0, 4, 2)},
		{"a second node ahead of a greedy third", 7, edges(0, 2, 0, 3, 2, 6, 6, 0, 3, 1, 1, 0), objects(0, 2, 6)},
		{"edges twice", 3, edges(2, 1, 1, 2, 2, 1, 1, 2), objects(1, 2)},
	} {
		t.Run(c.what, func(t *testing.T) {
			circles(t, c.n, c.edges, c.want...)
			turned := slices.Clone(c.edges)
			slices.Reverse(turned)
			circles(t, c.n, turned, c.want...)
		})
	}
}

// P20.3: long cycles, and none at all.
func TestCycleOfMany(t *testing.T) {
	n := api.MaxNodes
	circles(t, n, chain(n))
	circles(t, n, ring(n), upTo(n)...)
	circles(t, n, append(ring(n), api.Edge{From: n - 1, To: n - 1}), upTo(n)...)
	circles(t, n, append(ring(n), api.Edge{From: 2000, To: 0}), upTo(2001)...)
	circles(t, n, append(chain(n), api.Edge{From: n - 1, To: n - 1}), n-1)
	circles(t, n, append(chain(n), api.Edge{From: n - 1, To: n - 3}), n-3, n-2, n-1)
}

// The chapter's example 6.
func TestPartsOfTheChapter(t *testing.T) {
	falls(t, 5, edges(0, 3, 3, 0, 3, 4, 2, 2), objects(0, 3), objects(1), objects(2), objects(4))
}

// P20.4: who belongs together.
func TestParts(t *testing.T) {
	for _, c := range []struct {
		what  string
		n     int
		edges []api.Edge
		want  [][]int
	}{
		{"no nodes", 0, nil, nil},
		{"one node", 1, nil, [][]int{{0}}},
		{"each alone", 3, nil, [][]int{{0}, {1}, {2}}},
		{"each alone, one behind the other", 3, edges(2, 1, 1, 0, 2, 0), [][]int{{0}, {1}, {2}}},
		{"each alone, with edges to itself", 3, edges(0, 0, 1, 1, 2, 2), [][]int{{0}, {1}, {2}}},
		{"one of all", 4, edges(3, 1, 1, 2, 2, 0, 0, 3), [][]int{{0, 1, 2, 3}}},
		{"one of all, by two circles with one node in common", 5, edges(4, 1, 1, 4, 1, 3, 3, 2, 2, 1, 0, 2, 4, 0), [][]int{{0, 1, 2, 3, 4}}},
		{"one way only", 6, edges(0, 5, 5, 0, 5, 2, 2, 1, 1, 2, 1, 4, 4, 3, 3, 4, 0, 3), [][]int{{0, 5}, {1, 2}, {3, 4}}},
		{"one way only, against the numbers", 6, edges(4, 3, 3, 4, 4, 2, 2, 5, 5, 2, 5, 0, 0, 1, 1, 0), [][]int{{0, 1}, {2, 5}, {3, 4}}},
		{"two that lead to one that was told", 5, edges(0, 1, 1, 2, 2, 1, 3, 2, 3, 4, 4, 3), [][]int{{0}, {1, 2}, {3, 4}}},
		{"within one another's reach, not next to each other", 5, edges(4, 2, 2, 0, 0, 3, 3, 4, 1, 0, 3, 1), [][]int{{0, 1, 2, 3, 4}}},
	} {
		t.Run(c.what, func(t *testing.T) {
			falls(t, c.n, c.edges, c.want...)
			turned := slices.Clone(c.edges)
			slices.Reverse(turned)
			falls(t, c.n, append(turned, c.edges...), c.want...)
		})
	}
}

// P20.4: a long chain and a long circle.
func TestPartsOfMany(t *testing.T) {
	n := api.MaxNodes
	var alone [][]int
	for i := range n {
		alone = append(alone, objects(i))
	}
	falls(t, n, chain(n), alone...)
	falls(t, n, ring(n), upTo(n))
	falls(t, n, append(chain(n), api.Edge{From: n - 1, To: 1}), objects(0), upTo(n)[1:])
	var pairs []api.Edge
	var two [][]int
	for i := range n / 2 { // the first with the last, the second with the last but one, each pair leading to the next
		pairs = append(pairs, edges(i, n-1-i, n-1-i, i, i, i+1)...)
		two = append(two, objects(i, n-1-i))
	}
	falls(t, n, pairs, two...)
}

// The chapter's example 7, but for its errors.
func TestReachesOfTheChapter(t *testing.T) {
	list := edges(0, 1, 1, 2)
	leads(t, 3, list, 0, 2, true)
	leads(t, 3, list, 2, 0, false)
	leads(t, 3, list, 1, 1, false)
}

// P20.5: one edge or more, along them and not against them.
func TestReaches(t *testing.T) {
	leads(t, 1, nil, 0, 0, false)
	leads(t, 1, edges(0, 0), 0, 0, true)
	leads(t, 2, nil, 0, 1, false)
	leads(t, 2, edges(1, 0), 0, 1, false)
	leads(t, 2, edges(1, 0), 1, 0, true)
	leads(t, 2, edges(1, 1), 0, 0, false)
	leads(t, 2, edges(0, 0, 1, 1), 0, 1, false)
	list := edges(4, 2, 2, 3, 3, 4, 3, 0, 1, 2, 0, 5, 5, 0)
	want := [6]string{"100001", "101111", "101111", "101111", "101111", "100001"}
	for from := range 6 {
		for to := range 6 {
			leads(t, 6, list, from, to, want[from][to] == '1')
		}
	}
}

// P20.5: over many nodes, and where many ways lead on.
func TestReachesOverMany(t *testing.T) {
	n := api.MaxNodes
	leads(t, n, chain(n), 0, n-1, true)
	leads(t, n, chain(n), n-1, 0, false)
	leads(t, n, chain(n), 0, 0, false)
	leads(t, n, ring(n), n-1, n-2, true)
	leads(t, n, ring(n), 7, 7, true)
	var ladder []api.Edge // each pair leads to both of the next pair: more ways than could be gone
	for i := 0; i+3 < n-2; i += 2 {
		ladder = append(ladder, edges(i, i+2, i, i+3, i+1, i+2, i+1, i+3)...)
	}
	leads(t, n, ladder, 0, n-4, true)
	leads(t, n, ladder, 0, n-1, false)
}
