package judge_test

import (
	"math"
	"slices"
	"testing"

	"braid/api"
	"braid/fixture"
	"braid/judge"
)

// ended is an attempt with that end and that witness.
func ended(outcome, final int) api.Tx { return api.Tx{Outcome: outcome, Final: final} }

func ordered(t *testing.T, txs []api.Tx, want ...int) {
	t.Helper()
	if got, e := judge.Order(txs); e != api.OK || !slices.Equal(got, want) {
		t.Fatalf("Order = %v, %d, want %v", got, e, want)
	}
}

func notOrdered(t *testing.T, txs []api.Tx) {
	t.Helper()
	if got, e := judge.Order(txs); e != api.ErrTxs || got != nil {
		t.Fatalf("Order = %v, %d", got, e)
	}
}

// Chapter 16's example 1.
func TestOrderOfTheChapter(t *testing.T) {
	ordered(t, []api.Tx{
		{Begin: 0, Final: 9, End: 12, Outcome: api.EndCommit}, {Begin: 1, Final: -1, End: 7, Outcome: api.EndStale},
		{Begin: 2, Final: 5, End: 14, Outcome: api.EndCommit}, {Begin: 3, Final: 8, End: 9, Outcome: api.EndKilled},
	}, 2, 0)
	notOrdered(t, []api.Tx{ended(api.EndCommit, 5), ended(api.EndCommit, 5)})
	notOrdered(t, []api.Tx{ended(api.EndCommit, -1)})
	ordered(t, []api.Tx{ended(api.EndStale, -1)})
	ordered(t, nil)
	ordered(t, []api.Tx{})
}

// Of attempts that are not committed the witness may be anything, the same as another's too.
func TestOrderOfOthers(t *testing.T) {
	for _, end := range []int{api.EndNone, api.EndUser, api.EndBad, api.EndStale, api.EndKilled, -1, 6, math.MinInt, math.MaxInt} {
		for _, final := range []int{-1, 0, 5, -2, math.MinInt, math.MaxInt} {
			ordered(t, []api.Tx{ended(end, final)})
			ordered(t, []api.Tx{ended(end, final), ended(api.EndCommit, 5), ended(end, final), ended(end, 5)}, 1)
			notOrdered(t, []api.Tx{ended(end, final), ended(api.EndCommit, -1)})
		}
	}
}

// Committed ones: the witness is 0 or more, and no other's.
func TestOrderOfWitnesses(t *testing.T) {
	for _, final := range []int{-1, -2, math.MinInt} {
		notOrdered(t, []api.Tx{ended(api.EndCommit, 3), ended(api.EndCommit, final), ended(api.EndCommit, 4)})
	}
	for _, final := range []int{0, 1, math.MaxInt - 1, math.MaxInt} {
		ordered(t, []api.Tx{ended(api.EndCommit, final)}, 0)
		notOrdered(t, []api.Tx{ended(api.EndCommit, final), ended(api.EndStale, 7), ended(api.EndCommit, 70), ended(api.EndCommit, final)})
	}
	ordered(t, []api.Tx{ended(api.EndCommit, math.MaxInt), ended(api.EndCommit, 0), ended(api.EndCommit, 1)}, 1, 2, 0)
	var each func(finals []int, rest []int)
	each = func(finals []int, rest []int) { // every order of four
		if len(rest) == 0 {
			txs, want := []api.Tx{}, make([]int, 4)
			for place, f := range finals {
				txs = append(txs, ended(api.EndCommit, 10*f))
				want[f] = place
			}
			ordered(t, txs, want...)
		}
		for i, f := range rest {
			each(append(slices.Clone(finals), f), slices.Delete(slices.Clone(rest), i, i+1))
		}
	}
	each(nil, []int{0, 1, 2, 3})
}

// As many attempts as may be, and one more, whatever they are.
func TestOrderOfMany(t *testing.T) {
	var txs []api.Tx
	var want []int
	for place := range api.MaxOrder {
		txs = append(txs, ended(api.EndCommit, api.MaxOrder-place))
		want = append(want, api.MaxOrder-1-place)
	}
	ordered(t, txs, want...)
	for _, end := range []int{api.EndCommit, api.EndNone, api.EndStale} {
		notOrdered(t, append(slices.Clone(txs), ended(end, 9999)))
	}
	notOrdered(t, make([]api.Tx, api.MaxOrder+1))
	ordered(t, make([]api.Tx, api.MaxOrder))
}

// Nothing else of an attempt is looked at; thrown ones, against a plain order.
func TestThrownOrder(t *testing.T) {
	d := fixture.NewDice()
	refusals := 0
	for range 4000 {
		var txs []api.Tx
		for range d.Below(12) {
			n := func() int { return d.Below(5) - 2 }
			txs = append(txs, api.Tx{
				Thread: n(), Job: n(), Try: n(), Attempt: n(), Stamp: fixture.Edge(&d), Begin: n(), End: n(),
				Final: d.Below(120) - 1, Outcome: fixture.Pick(&d, api.EndCommit, api.EndCommit, api.EndStale, api.EndNone),
				Saws: make([]api.Saw, d.Below(3)), Writes: make([]api.Wrote, d.Below(3)),
			})
		}
		want, stands := plainOrder(txs)
		if stands {
			ordered(t, txs, want...)
		} else {
			notOrdered(t, txs)
			refusals++
		}
	}
	if refusals < 100 || refusals > 3000 {
		t.Errorf("%d were refused", refusals)
	}
}

// plainOrder sorts the witnesses.
func plainOrder(txs []api.Tx) ([]int, bool) {
	var places []int
	for place, x := range txs {
		if x.Outcome == api.EndCommit {
			places = append(places, place)
		}
	}
	slices.SortFunc(places, func(a, b int) int { return txs[a].Final - txs[b].Final })
	for i, place := range places {
		if txs[place].Final < 0 || i > 0 && txs[place].Final == txs[places[i-1]].Final {
			return nil, false
		}
	}
	return places, true
}
