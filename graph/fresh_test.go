package graph_test

import (
	"runtime"
	"slices"
	"testing"

	"braid/api"
	"braid/fixture"
	"braid/graph"
)

// tangle is a graph in which each call has something to tell.
func tangle() []api.Edge {
	return append(make([]api.Edge, 0, 20), edges(5, 1, 0, 5, 0, 3, 3, 1, 2, 4, 4, 2, 1, 2, 4, 6, 6, 4)...)
}

// crowd are attempts with edges of all kinds, with room behind every list.
func crowd() []api.Tx {
	list := append(make([]api.Tx, 0, 9), tx(5, 6, objects(3, 1, 3), objects(3, 2)), tx(9, 12, objects(2, 3), objects(1)), tx(7, 8, objects(3), objects(3, 1)))
	for i := range list {
		list[i].Saws = append(make([]api.Saw, 0, 9), list[i].Saws...)
		list[i].Writes = append(make([]api.Wrote, 0, 9), list[i].Writes...)
	}
	return list
}

func sameTx(a, b api.Tx) bool {
	return a.Thread == b.Thread && a.Job == b.Job && a.Try == b.Try && a.Attempt == b.Attempt && a.Stamp == b.Stamp && a.Begin == b.Begin && a.Final == b.Final &&
		a.End == b.End && a.Outcome == b.Outcome && slices.Equal(a.Saws[:cap(a.Saws)], b.Saws[:cap(b.Saws)]) && slices.Equal(a.Writes[:cap(a.Writes)], b.Writes[:cap(b.Writes)])
}

// R3: no call changes what it is given, the room behind it too.
func TestHandedIn(t *testing.T) {
	list, kept := tangle(), tangle()
	attempts, keptAttempts := crowd(), crowd()
	graph.Build(attempts)
	graph.Order(7, list)
	graph.Cycle(7, list)
	graph.Parts(7, list)
	graph.Reaches(7, list, 0, 6)
	if !slices.Equal(list[:cap(list)], kept[:cap(kept)]) {
		t.Errorf("the edges are %v", list[:cap(list)])
	}
	if len(attempts) != 3 || !slices.EqualFunc(attempts[:cap(attempts)], keptAttempts[:cap(keptAttempts)], sameTx) {
		t.Errorf("the attempts are %v", attempts[:cap(attempts)])
	}
}

// answers are what the calls tell of crowd and tangle.
type answers struct {
	built        []api.Edge
	order, cycle []int
	parts        [][]int
	all, reached bool
}

func ask(attempts []api.Tx, list []api.Edge) answers {
	var a answers
	a.built, _ = graph.Build(attempts)
	a.order, a.all, _ = graph.Order(7, list)
	a.cycle, _ = graph.Cycle(7, list)
	a.parts, _ = graph.Parts(7, list)
	a.reached, _ = graph.Reaches(7, list, 0, 6)
	return a
}

func (a answers) same(b answers) bool {
	return slices.Equal(a.built, b.built) && slices.Equal(a.order, b.order) && slices.Equal(a.cycle, b.cycle) &&
		slices.EqualFunc(a.parts, b.parts, slices.Equal) && a.all == b.all && a.reached == b.reached
}

// want is by hand.
func want() answers {
	return answers{
		built: []api.Edge{read(0, 1, 2), read(0, 1, 3), over(0, 1, 1), read(0, 2, 3), write(0, 2, 3), over(0, 2, 1), over(0, 2, 3), read(2, 1, 3), write(2, 1, 1)},
		order: objects(0, 3, 5, 1), cycle: objects(2, 4), parts: [][]int{{0}, {1}, {2, 4, 6}, {3}, {5}}, reached: true,
	}
}

// R3: what was answered is the caller's, its spare room too, and what was handed in is not kept.
func TestAnswersAreNew(t *testing.T) {
	attempts, list := crowd(), tangle()
	a, b := ask(attempts, list), ask(attempts, list)
	if !a.same(want()) {
		t.Fatalf("%+v", a)
	}
	fixture.Full(a.built, api.Edge{From: 99})
	fixture.Full(a.order, 99)
	fixture.Full(a.cycle, 99)
	for i := range a.parts {
		fixture.Full(a.parts[i], 99+i)
		for j, other := range a.parts[:i] {
			if slices.Contains(other[:cap(other)], 99+i) {
				t.Errorf("the parts %d and %d share memory", i, j)
			}
		}
	}
	fixture.Full(a.parts, nil)
	if !b.same(want()) || !ask(attempts, list).same(want()) {
		t.Errorf("%+v, then %+v", b, ask(attempts, list))
	}
	for i := range attempts {
		fixture.Full(attempts[i].Saws, api.Saw{Object: 7})
		fixture.Full(attempts[i].Writes, api.Wrote{Object: 7})
	}
	fixture.Full(attempts, api.Tx{})
	fixture.Full(list, api.Edge{From: 1, To: 1})
	if !b.same(want()) || !ask(crowd(), tangle()).same(want()) {
		t.Errorf("%+v, then %+v", b, ask(crowd(), tangle()))
	}
}

// R4, R6: the same answers, however often they are asked for and by how many at once, and no goroutine is left.
func TestTheSameAgain(t *testing.T) {
	attempts, list := crowd(), tangle()
	fixture.OverAgain(t, runtime.NumGoroutine, 300, func() {
		if got := ask(attempts, list); !got.same(want()) {
			t.Errorf("%+v", got)
		}
	})
}
