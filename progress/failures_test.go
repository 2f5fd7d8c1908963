package progress_test

import (
	"cmp"
	"slices"
	"testing"

	"braid/api"
	"braid/history"
)

// plainFailures is 21.5 by its words.
func plainFailures(t *testing.T, rows []api.Row) []api.Failure {
	t.Helper()
	txs, e := history.Txs(rows)
	if e != api.OK {
		t.Fatalf("Txs = %d", e)
	}
	var list []api.Failure
	for place, x := range txs {
		if x.Outcome != api.EndStale && x.Outcome != api.EndKilled {
			continue
		}
		f := api.Failure{Tx: place, Thread: x.Thread, Job: x.Job, Stamp: x.Stamp, Begin: x.Begin, End: x.End, Why: x.Outcome}
		oldest, e := history.Oldest(rows, x.End)
		if e != api.OK {
			t.Fatalf("Oldest = %d", e)
		}
		f.Oldest = oldest == x.Stamp
		for _, r := range rows {
			if r.Step >= x.Begin && r.Step <= x.End && (r.End == api.EndCommit || r.End == api.EndUser || r.End == api.EndBad) && (r.Thread != x.Thread || r.Job != x.Job) {
				f.Others++
			}
		}
		list = append(list, f)
	}
	slices.SortFunc(list, func(a, b api.Failure) int { return cmp.Compare(a.End, b.End) })
	return list
}

// Chapter 21's example 5, of Failures and of Clashes; and rows that may not stand wherever the fault is.
func TestNoRowsAndWrongRows(t *testing.T) {
	for _, rows := range [][]api.Row{nil, {}, laid(stutter(), begin(0), stutter(), begin(3))} {
		fails(t, rows)
		clash(t, rows)
	}
	notRows(t, []api.Row{{Step: 1}})
	notRows(t, []api.Row{{}})
	good := func() []api.Row {
		return laid(begin(0), met(0, api.RowMine, 7), begin(1), killed(0, api.RowKill), again(0), commit(1), back(1), quit(0, api.EndStale))
	}
	for i := range good() {
		for _, spoil := range []func(r *api.Row){
			func(r *api.Row) { r.Step++ }, func(r *api.Row) { r.Thread = 5 }, func(r *api.Row) { r.Job++ },
			func(r *api.Row) { r.Try-- }, func(r *api.Row) { r.Attempt += 3 }, func(r *api.Row) { r.Kind = api.RowKinds },
			func(r *api.Row) { r.End = api.EndKilled + 1 }, func(r *api.Row) { r.Told, r.Object = true, -1 },
		} {
			rows := good()
			spoil(&rows[i])
			notRows(t, rows)
		}
	}
	if _, e := history.Check(good()); e != api.OK {
		t.Errorf("Check = %d", e)
	}
}

// Stale ones and killed ones, told in the order of their ends, which is not that of their begins.
func TestFailuresByHand(t *testing.T) {
	rows := laid(
		begin(0), begin(4), begin(2), // 0 to 2
		commit(2), quit(4, api.EndStale), back(2), // 3 to 5
		again(4), killed(0, api.RowMine), commit(4), // 6 to 8
		again(0), begin(2), quit(0, api.EndStale), // 9 to 11
		stutter(), again(0), back(4), // 12 to 14
		begin(4), quit(2, api.EndUser), quit(0, api.EndBad), // 15 to 17
		killed(4, api.RowCommit), back(0), again(4), // 18 to 20
		begin(0), commit(4), // 21 and 22
	)
	fails(t, rows,
		api.Failure{Tx: 1, Thread: 4, Stamp: 1, Begin: 1, End: 4, Why: api.EndStale, Others: 1},
		api.Failure{Tx: 0, Stamp: 0, Begin: 0, End: 7, Why: api.EndKilled, Oldest: true, Others: 1},
		api.Failure{Tx: 4, Stamp: 0, Begin: 9, End: 11, Why: api.EndStale, Oldest: true},
		api.Failure{Tx: 7, Thread: 4, Job: 1, Stamp: 4, Begin: 15, End: 18, Why: api.EndKilled, Oldest: true, Others: 2},
	)
	if want := plainFailures(t, rows); len(want) != 4 {
		t.Fatalf("by the words of the chapter %+v", want)
	}
	for k := range rows {
		fails(t, rows[:k], plainFailures(t, rows[:k])...)
	}
}

// lone looks at the last failure of some rows alone: whether it is the oldest one's, and how many others there were.
func lone(t *testing.T, oldest bool, others int, list ...api.Row) {
	t.Helper()
	rows := laid(list...)
	want := plainFailures(t, rows)
	fails(t, rows, want...)
	if f := want[len(want)-1]; f.Oldest != oldest || f.Others != others {
		t.Fatalf("%+v, want %v, %d", f, oldest, others)
	}
}

// An outcome counts from the step behind the begin to the step ahead of the end: nobody else has a row at these themselves.
func TestOthersAtTheEdges(t *testing.T) {
	lone(t, false, 0, begin(1), begin(2), commit(1), begin(0), killed(0, api.RowMine))            // just ahead of the begin
	lone(t, false, 1, begin(1), begin(2), begin(0), commit(1), stutter(), killed(0, api.RowMine)) // just behind it
	lone(t, false, 1, begin(1), begin(2), begin(0), stutter(), commit(1), killed(0, api.RowMine)) // just ahead of the end
	lone(t, false, 0, begin(1), begin(2), begin(0), killed(0, api.RowMine), commit(1))            // just behind it
	lone(t, false, 0, begin(1), begin(0), killed(0, api.RowMine), commit(1), again(0))
	lone(t, true, 0, begin(1), begin(0), killed(0, api.RowMine), commit(1), again(0), killed(0, api.RowMine))
	lone(t, true, 1, begin(0), begin(1), killed(0, api.RowMine), again(0), commit(1), quit(0, api.EndStale))
}

// Every outcome counts, of other threads and of several jobs of one of them; what fails does not.
func TestOthersOfEachEnd(t *testing.T) {
	lone(t, true, 3, begin(0), begin(1), commit(1), back(1), begin(1), quit(1, api.EndUser), back(1), begin(1), quit(1, api.EndBad), back(1), killed(0, api.RowMine))
	lone(t, true, 3, begin(0), begin(1), begin(2), begin(3), quit(3, api.EndBad), quit(2, api.EndUser), commit(1), quit(0, api.EndStale))
	lone(t, true, 0, begin(0), begin(1), quit(1, api.EndStale), again(1), killed(1, api.RowKill), quit(0, api.EndStale))
	lone(t, false, 1, begin(0), begin(2), begin(1), quit(0, api.EndStale), again(0), commit(2), killed(1, api.RowLocal))
	// the same thread's other jobs, and jobs of the same number in other threads
	lone(t, true, 0, begin(0), commit(0), back(0), begin(0), killed(0, api.RowMine))
	lone(t, true, 0, begin(0), commit(0), back(0), begin(0), killed(0, api.RowMine), again(0), commit(0), back(0), begin(0), commit(0))
	lone(t, true, 1, begin(0), commit(0), back(0), begin(1), commit(1), back(1), begin(0), begin(1), commit(1), killed(0, api.RowMine))
}

// The oldest one is that of those that have begun and have no outcome behind the end, returned or not.
func TestOldest(t *testing.T) {
	lone(t, true, 0, begin(0), killed(0, api.RowMine))
	lone(t, true, 0, begin(0), begin(1), killed(0, api.RowMine))
	lone(t, false, 0, begin(1), begin(0), killed(0, api.RowMine))
	lone(t, true, 1, begin(1), begin(0), commit(1), killed(0, api.RowMine))             // the older one is through, though it has not returned
	lone(t, false, 0, begin(1), begin(0), killed(0, api.RowMine), commit(1))            // a step too late
	lone(t, false, 0, begin(1), begin(0), quit(1, api.EndStale), quit(0, api.EndStale)) // it failed, and is the oldest still
	lone(t, false, 0, begin(1), quit(1, api.EndStale), begin(0), again(1), quit(0, api.EndStale))
	lone(t, true, 0, begin(1), commit(1), back(1), begin(0), begin(1), quit(0, api.EndStale))
	lone(t, false, 0, begin(0), commit(0), begin(1), back(0), begin(0), quit(0, api.EndStale)) // its thread was the first, its job is the younger one
}
