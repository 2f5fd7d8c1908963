package graph_test

import (
	"math"
	"slices"
	"testing"

	"braid/api"
	"braid/graph"
)

// The chapter's examples 1 to 3.
func TestBuildOfTheChapter(t *testing.T) {
	first := tx(5, 9, objects(3), objects(3))
	builds(t, txs(first, tx(12, 15, objects(3), objects(4))), read(0, 1, 3))
	builds(t, txs(first, tx(7, 15, objects(3), objects(4))), over(1, 0, 3))
	builds(t, txs(first, tx(6, 7, objects(3), objects(4))), over(1, 0, 3))
	builds(t, txs(tx(5, 6, objects(3), objects(3)), tx(7, 8, objects(3), objects(3))), read(0, 1, 3), write(0, 1, 3), over(0, 1, 3))
	skew := txs(tx(5, 9, objects(1), objects(0)), tx(6, 10, objects(0), objects(1)))
	builds(t, skew, over(0, 1, 1), over(1, 0, 0))
	list, _ := graph.Build(skew)
	circles(t, 2, list, 0, 1)
	orders(t, 2, list, false)
	falls(t, 2, list, objects(0, 1))
}

// P20.1: each kind alone, at its edges.
func TestKinds(t *testing.T) {
	for _, c := range []struct {
		what string
		txs  []api.Tx
		want []api.Edge
	}{
		{"no attempts", nil, nil},
		{"one alone", txs(tx(5, 9, objects(1, 2), objects(1, 2))), nil},
		{"both read, none writes", txs(tx(5, 9, objects(1), nil), tx(12, 15, objects(1), nil)), nil},
		{"other objects", txs(tx(5, 9, objects(1), objects(2)), tx(12, 15, objects(3), objects(4))), nil},
		{"read: an End below the Final", txs(tx(5, 9, nil, objects(1)), tx(10, 15, objects(1), nil)), []api.Edge{read(0, 1, 1)}},
		{"over: an End at the Final", txs(tx(5, 9, nil, objects(1)), tx(9, 15, objects(1), nil)), []api.Edge{over(1, 0, 1)}},
		{"over: an End above the Final", txs(tx(5, 9, nil, objects(1)), tx(8, 15, objects(1), nil)), []api.Edge{over(1, 0, 1)}},
		{"read by the one that stands first", txs(tx(10, 15, objects(1), nil), tx(5, 9, nil, objects(1))), []api.Edge{read(1, 0, 1)}},
		{"over, by the one that stands behind", txs(tx(3, 20, objects(1), nil), tx(5, 9, nil, objects(1))), []api.Edge{over(0, 1, 1)}},
		{"write: the lesser End first", txs(tx(5, 9, nil, objects(1)), tx(4, 8, nil, objects(1))), []api.Edge{write(1, 0, 1)}},
		{"write: by the Ends, not by the Finals", txs(tx(7, 8, nil, objects(1)), tx(3, 9, nil, objects(1))), []api.Edge{write(0, 1, 1)}},
		{"write: neither one reads", txs(tx(1, 2, nil, objects(1)), tx(30, 40, nil, objects(1))), []api.Edge{write(0, 1, 1)}},
		{"a writer that also reads, ahead of a reader", txs(tx(5, 6, objects(1), objects(1)), tx(7, 8, objects(1), nil)), []api.Edge{read(0, 1, 1)}},
		{"both ways: each wrote over the other's read", txs(tx(5, 20, objects(1), objects(1)), tx(6, 21, objects(1), objects(1))), []api.Edge{write(0, 1, 1), over(0, 1, 1), over(1, 0, 1)}},
		{"both ways, over and read", txs(tx(5, 20, objects(1), objects(2)), tx(30, 40, objects(2), objects(1))), []api.Edge{read(0, 1, 2), over(0, 1, 1)}},
		{"the same, told at a Final behind the other's End", txs(tx(50, 60, objects(1), objects(2)), tx(30, 40, objects(2), objects(1))), []api.Edge{over(1, 0, 2), read(1, 0, 1)}},
		{"Finals above Ends: read both ways", txs(tx(50, 20, objects(1), objects(2)), tx(51, 21, objects(2), objects(1))), []api.Edge{read(0, 1, 2), read(1, 0, 1)}},
		{"a Final of 0", txs(tx(0, 1, objects(1), nil), tx(0, 2, nil, objects(1))), []api.Edge{over(0, 1, 1)}},
		{"ends at the ends of the numbers", txs(tx(math.MaxInt, math.MaxInt, objects(1), nil), tx(0, math.MaxInt-1, nil, objects(1))), []api.Edge{read(1, 0, 1)}},
	} {
		t.Run(c.what, func(t *testing.T) {
			sorted := slices.Clone(c.want)
			slices.SortFunc(sorted, before)
			builds(t, c.txs, sorted...)
		})
	}
}

// P20.1: what counts as a read and as a write.
func TestWhatIsReadAndWritten(t *testing.T) {
	saws := func(list ...api.Saw) api.Tx {
		return but(tx(12, 15, nil, nil), func(x *api.Tx) { x.Saws = list })
	}
	writer := tx(5, 9, nil, objects(3))
	from := []api.Edge{read(0, 1, 3)}
	for _, c := range []struct {
		what string
		tx   api.Tx
		want []api.Edge
	}{
		{"own", saws(api.Saw{Object: 3, Own: true}), nil},
		{"released", saws(api.Saw{Object: 3, Released: true}), nil},
		{"own and released", saws(api.Saw{Object: 3, Own: true, Released: true}), nil},
		{"own, for writing", saws(api.Saw{Object: 3, Own: true, Write: true}), nil},
		{"for writing", saws(api.Saw{Object: 3, Write: true}), from},
		{"for writing and released", saws(api.Saw{Object: 3, Write: true, Released: true}), nil},
		{"several times", saws(api.Saw{Object: 3}, api.Saw{Object: 4}, api.Saw{Object: 3, Entry: 1}, api.Saw{Object: 3, Write: true}), from},
		{"released, and read again", saws(api.Saw{Object: 3, Released: true}, api.Saw{Object: 3, Entry: 1}), from},
		{"read, then again and released", saws(api.Saw{Object: 3}, api.Saw{Object: 3, Entry: 1, Released: true}), from},
		{"read, then its own", saws(api.Saw{Object: 3}, api.Saw{Object: 3, Entry: -1, Own: true}), from},
		{"the rest of a saw is not looked at", saws(api.Saw{Step: -7, Object: 3, Entry: -9, Value: api.Value{Num: 4, Next: 5, Dead: true}}), from},
	} {
		t.Run(c.what, func(t *testing.T) { builds(t, txs(writer, c.tx), c.want...) })
	}
	twice := but(writer, func(x *api.Tx) { x.Writes = append(x.Writes, api.Wrote{Object: 3, Value: api.Value{Num: 8}}) })
	builds(t, txs(twice, tx(12, 15, objects(3, 3), objects(3, 3))), read(0, 1, 3), write(0, 1, 3))
	builds(t, txs(tx(5, 9, nil, objects(-4, math.MinInt, math.MaxInt)), tx(12, 15, objects(math.MaxInt, -4, math.MinInt), nil)),
		read(0, 1, math.MinInt), read(0, 1, -4), read(0, 1, math.MaxInt))
}

// P20.1: the attempts are named by their places, those that did not commit counted; and nothing else of one is looked at.
func TestPlaces(t *testing.T) {
	var list []api.Tx
	for _, o := range []int{api.EndNone, api.EndUser, api.EndBad, api.EndStale, api.EndKilled, -1, 77} {
		list = append(list, but(tx(5, 9, objects(1), objects(1)), func(x *api.Tx) { x.Outcome = o }))
	}
	list = append(list, tx(5, 9, nil, objects(1)))
	list = append(list, list[:3]...)
	list = append(list, tx(12, 15, objects(1), nil), list[4])
	builds(t, list, read(7, 11, 1))
	for i := range list {
		list[i].Thread, list[i].Job, list[i].Try, list[i].Attempt, list[i].Stamp = 9-i, -i, 7, i%2, int64(-i)
	}
	list[7].Begin, list[11].Begin = -30, 14
	builds(t, list, read(7, 11, 1))
}

// P20.1: sorted by From, To, Kind and Object, none twice, none from an attempt to itself.
func TestSorted(t *testing.T) {
	list := txs(
		tx(30, 31, objects(9, 2, 5), objects(9, 2, 5)),
		tx(10, 11, objects(5, 9, 2), objects(2, 9, 5)),
		tx(20, 21, objects(2, 5, 9), objects(5, 2, 9)),
	)
	var want []api.Edge
	for _, p := range [][2]int{{1, 0}, {1, 2}, {2, 0}} {
		for kind := api.EdgeRead; kind <= api.EdgeOver; kind++ {
			for _, x := range objects(2, 5, 9) {
				want = append(want, api.Edge{From: p[0], To: p[1], Kind: kind, Object: x})
			}
		}
	}
	builds(t, list, want...)
}

// P20.1: what may not stand, alone, first and last, and the same of attempts that are not looked at.
func TestAttemptsThatMayNotStand(t *testing.T) {
	fine := txs(tx(5, 9, objects(1), objects(1)), tx(12, 15, objects(1), nil))
	builds(t, fine, read(0, 1, 1))
	for what, bad := range map[string]api.Tx{
		"a Final of -1":            tx(-1, 20, nil, nil),
		"the least Final":          tx(math.MinInt, 20, nil, nil),
		"an End at its Begin":      but(tx(18, 20, nil, nil), func(x *api.Tx) { x.Begin = 20 }),
		"an End below its Begin":   but(tx(18, 20, nil, nil), func(x *api.Tx) { x.Begin = 21 }),
		"no End":                   tx(18, -1, nil, nil),
		"all zero but the Outcome": {Outcome: api.EndCommit},
		"an End that is another's": tx(7, 9, nil, nil),
		"the other's End":          tx(14, 15, nil, nil),
	} {
		t.Run(what, func(t *testing.T) {
			notBuilt(t, append(slices.Clone(fine), bad))
			notBuilt(t, append(txs(bad), fine...))
			bad.Outcome = api.EndStale
			builds(t, append(slices.Clone(fine), bad, bad), read(0, 1, 1))
			builds(t, append(txs(bad, bad), fine...), read(2, 3, 1))
		})
	}
	builds(t, txs(but(tx(0, 1, nil, nil), func(x *api.Tx) { x.Begin = 0 })))
	builds(t, txs(but(tx(0, -5, nil, nil), func(x *api.Tx) { x.Begin = -6 })))
}

// P20.1: as many attempts as may be, and one more, whether they committed or not.
func TestManyAttempts(t *testing.T) {
	var list []api.Tx
	var want []api.Edge
	for i := range api.MaxNodes {
		list = append(list, tx(i, i+1, objects(i), objects(i+1)))
		if i > 0 {
			want = append(want, over(i, i-1, i)) // the End is at the Final
		}
	}
	builds(t, list, want...)
	notBuilt(t, append(list, api.Tx{}))
	notBuilt(t, make([]api.Tx, api.MaxNodes+1))
	builds(t, make([]api.Tx, api.MaxNodes))
}

// P20.1: one object in the hands of many.
func TestManyOverOneObject(t *testing.T) {
	const n = 300
	var list []api.Tx
	var want []api.Edge
	for i := range n {
		list = append(list, tx(2*i, 2*i+1, objects(0), objects(0)))
		for j := i + 1; j < n; j++ {
			want = append(want, read(i, j, 0), write(i, j, 0), over(i, j, 0))
		}
	}
	builds(t, list, want...)
	orders(t, n, want, true, upTo(n)...)
}
