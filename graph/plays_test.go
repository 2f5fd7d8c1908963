package graph_test

import (
	"slices"
	"testing"

	"braid/api"
	"braid/fixture"
	"braid/graph"
	"braid/history"
	"braid/machine"
)

// thrown is a graph of up to so many nodes: thin ones and thick ones, some of whose edges stand twice, some without any
// edge back.
func thrown(d *fixture.Dice, most int) (int, []api.Edge) {
	n := d.Below(most + 1)
	if n == 0 {
		return 0, nil
	}
	var list []api.Edge
	forward, itself := d.Below(3) == 0, d.Below(3) == 0
	names := upTo(n) // where all edges lead forward, they do so by these
	for i := range names {
		j := d.Below(n)
		names[i], names[j] = names[j], names[i]
	}
	for range fixture.Pick(d, n/2, n, n, 2*n, n*n/2) {
		a, b := d.Below(n), d.Below(n)
		if a == b && !itself || forward && a > b {
			continue
		}
		list = append(list, api.Edge{From: names[a], To: names[b], Kind: d.Below(3), Object: d.Below(4)})
		if d.Below(8) == 0 {
			list = append(list, list[d.Below(len(list))])
		}
	}
	return n, list
}

// found counts what thrown graphs were like.
type found struct{ ordered, cut, itself, long, many int }

// asked asks all there is to ask of a graph, and looks at P20.6.
func asked(t *testing.T, n int, list []api.Edge, cycle []int, f *found) {
	t.Helper()
	order, all := plainOrder(n, list)
	parts := plainParts(n, list)
	orders(t, n, list, all, order...)
	falls(t, n, list, parts...)
	circles(t, n, list, cycle...)
	m := matrix(n, list)
	for from := range n {
		for to := range n {
			leads(t, n, list, from, to, m[from][to])
		}
	}
	ofOneMind(t, n, list)
	switch {
	case all:
		f.ordered++
	case len(order) > 0:
		f.cut++
	}
	switch {
	case len(cycle) == 1:
		f.itself++
	case len(cycle) > 2:
		f.long++
	}
	if len(parts) > 1 && len(parts) < n {
		f.many++
	}
}

// ofOneMind is P20.6, by the answers of the calls alone.
func ofOneMind(t *testing.T, n int, list []api.Edge) {
	t.Helper()
	order, all, _ := graph.Order(n, list)
	cycle, _ := graph.Cycle(n, list)
	parts, _ := graph.Parts(n, list)
	alone := !slices.ContainsFunc(parts, func(p []int) bool { return len(p) != 1 })
	itself := slices.ContainsFunc(list, func(e api.Edge) bool { return e.From == e.To })
	if all != (len(cycle) == 0) || all != (alone && !itself) {
		t.Fatalf("Order %v, Cycle %v, Parts %v", all, cycle, parts)
	}
	if !all {
		return
	}
	places := make([]int, n)
	for i, node := range order {
		places[node] = i
	}
	for _, e := range list {
		if places[e.From] >= places[e.To] {
			t.Fatalf("%v leads back in %v", e, order)
		}
	}
}

// P20.2 to P20.6 of thrown graphs, against slow reckonings.
func TestThrownGraphs(t *testing.T) {
	t.Parallel()
	d := fixture.NewDice()
	var few, more found
	for range 4000 {
		n, list := thrown(&d, 6)
		asked(t, n, list, plainCycle(n, list), &few)
	}
	for range 600 {
		n, list := thrown(&d, 30)
		asked(t, n, list, wideCycle(n, list), &more)
	}
	for _, f := range []found{few, more} {
		if f.ordered < 100 || f.cut < 100 || f.itself < 30 || f.long < 50 || f.many < 100 {
			t.Errorf("%+v", f)
		}
	}
}

// thrownTxs are attempts over few objects and few steps, most of which may stand.
func thrownTxs(d *fixture.Dice) []api.Tx {
	var list []api.Tx
	ends := d.Below(20)
	for range d.Below(9) {
		ends += 1 + d.Below(6)
		x := api.Tx{Begin: ends - 1 - d.Below(12), Final: max(0, ends-d.Below(14)), End: ends, Outcome: api.EndCommit}
		if d.Below(5) == 0 {
			x.Outcome = d.Below(api.EndKilled + 1)
		}
		for range d.Below(5) {
			x.Saws = append(x.Saws, api.Saw{Object: d.Below(4), Own: d.Below(5) == 0, Released: d.Below(4) == 0, Write: d.Below(3) == 0})
		}
		for range d.Below(4) {
			x.Writes = append(x.Writes, api.Wrote{Object: d.Below(4), Value: api.Value{Num: int64(d.Below(9))}})
		}
		switch d.Below(60) {
		case 0:
			x.Final = -1
		case 1:
			x.Begin = x.End
		case 2:
			x.End--
		}
		list = append(list, x)
	}
	for i := range list {
		j := d.Below(i + 1)
		list[i], list[j] = list[j], list[i]
	}
	return list
}

// P20.1 of thrown attempts, against the words of the chapter; and P20.6 of their edges.
func TestThrownAttempts(t *testing.T) {
	t.Parallel()
	d := fixture.NewDice()
	var kinds [3]int
	refused, both := 0, 0
	for range 6000 {
		list := thrownTxs(&d)
		want, why := plainBuild(list)
		if why != api.OK {
			notBuilt(t, list)
			refused++
			continue
		}
		builds(t, list, want...)
		ofOneMind(t, len(list), want)
		for _, e := range want {
			kinds[e.Kind]++
			if slices.ContainsFunc(want, func(f api.Edge) bool { return f.From == e.To && f.To == e.From }) {
				both++
			}
		}
	}
	if slices.Min(kinds[:]) < 5000 || refused < 200 || refused > 3000 || both < 1000 {
		t.Errorf("%v edges, %d both ways, %d refused", kinds, both, refused)
	}
}

// P20.7: of the machine's runs all edges lead from a lesser Final to a greater one, and Order is true.
func TestRunsHaveNoCircle(t *testing.T) {
	t.Parallel()
	d := fixture.NewDice()
	var kinds [3]int
	far := 0
	for n := range 1500 {
		r, e := machine.Run(fixture.Thrown(&d, n))
		if e != api.OK {
			t.Fatalf("Run = %d", e)
		}
		list, _ := history.Txs(r.Rows)
		got, e := graph.Build(list)
		want, _ := plainBuild(list)
		if e != api.OK || !slices.Equal(got, want) {
			t.Fatalf("Build = %v, %d, want %v", got, e, want)
		}
		for _, e := range got {
			kinds[e.Kind]++
			if list[e.From].Final >= list[e.To].Final {
				t.Fatalf("script %d: %v leads from the Final %d to %d", n, e, list[e.From].Final, list[e.To].Final)
			}
			if list[e.From].End > list[e.To].End {
				far++
			}
		}
		if _, all, e := graph.Order(len(list), got); e != api.OK || !all {
			t.Fatalf("script %d: Order is %v, %d", n, all, e)
		}
		ofOneMind(t, len(list), got)
	}
	if slices.Min(kinds[:]) < 1000 || far == 0 {
		t.Errorf("%v edges, %d against the Ends", kinds, far)
	}
}
