package history_test

import (
	"slices"
	"testing"

	"braid/api"
	"braid/fixture"
	"braid/history"
)

// The rows of package fixture, by short names.
var (
	of, stutter, begin, again, back = fixture.Of, fixture.Stutter, fixture.Begin, fixture.Again, fixture.Back
	tells, reads, writes, puts      = fixture.Tells, fixture.Reads, fixture.Writes, fixture.Puts
	release, commit, quit, killed   = fixture.Release, fixture.Commit, fixture.Quit, fixture.Killed
	with, laid                      = fixture.With, fixture.Laid
)

// example is chapter 15's example 1.
func example() []api.Row {
	return laid(begin(0), stutter(), reads(0, 3, 0, 7), puts(0, 3, 9), commit(0), back(0))
}

// story is of four threads, with rows of every kind, and attempts of every end.
func story() []api.Row {
	final := with(of(3, api.RowPoint), func(r *api.Row) { r.Phase, r.Entry, r.Object = api.PhaseFinal, 1, 5 })
	return laid(
		begin(0), stutter(), begin(3), // 0 to 2
		reads(0, 2, 0, 7), reads(3, 2, 0, 7), reads(3, 5, 1, 8), // 3 to 5
		release(3, 0), tells(3, api.RowLocal, api.PhaseRead, 5, 1, 8), writes(3, 5, 1, 8, 80), // 6 to 8
		tells(3, api.RowLocal, api.PhaseWrite, 5, -1, 80), puts(3, 1, 81), release(3, -1), // 9 to 11
		writes(0, 2, 0, 7, 70), final, quit(3, api.EndStale), // 12 to 14
		again(3), commit(0), begin(5), // 15 to 17
		back(0), reads(3, 2, 0, 70), begin(0), // 18 to 20
		of(0, api.RowLook), quit(0, api.EndUser), back(0), // 21 to 23
		killed(3, api.RowMine), again(3), begin(0), // 24 to 26
		of(0, api.RowUp), of(0, api.RowWait), of(0, api.RowDown), // 27 to 29
		of(0, api.RowKill), of(0, api.RowAcquire), of(0, api.RowStatus), // 30 to 32
		quit(5, api.EndBad), killed(3, api.RowCommit), stutter(), // 33 to 35
		again(3), back(5), writes(3, 0, -1, 1, 2), // 36 to 38
		of(3, api.RowCommit), commit(3), begin(1), // 39 to 41
		reads(1, 2, 0, 70), reads(1, 9, 1, 1), reads(1, 4, -1, 3), // 42 to 44
		back(3), writes(1, 9, 1, 1, 5), // 45 and 46
	)
}

// checks looks that a call finds that place, -1: none; and that the other calls refuse such rows, whatever the step.
func checks(t *testing.T, rows []api.Row, want int) {
	t.Helper()
	why := api.OK
	if want >= 0 {
		why = api.ErrRows
	}
	if at, e := history.Check(rows); at != want || e != why {
		t.Fatalf("Check = %d, %d, want %d, %d", at, e, want, why)
	}
	if why == api.OK {
		return
	}
	if txs, e := history.Txs(rows); txs != nil || e != why {
		t.Fatalf("Txs = %+v, %d", txs, e)
	}
	if steps, e := history.Outcomes(rows); steps != nil || e != why {
		t.Fatalf("Outcomes = %v, %d", steps, e)
	}
	for _, step := range []int{-2, -1, 0, len(rows) - 1, len(rows), 99} {
		if v, e := history.At([]api.Value{{Num: 4}}, rows, step); v != nil || e != why {
			t.Fatalf("At(%d) = %v, %d", step, v, e)
		}
		if o, e := history.Oldest(rows, step); o != 0 || e != why {
			t.Fatalf("Oldest(%d) = %d, %d", step, o, e)
		}
	}
}

func txsOf(t *testing.T, rows []api.Row) []api.Tx {
	t.Helper()
	txs, e := history.Txs(rows)
	if e != api.OK {
		t.Fatalf("Txs = %d", e)
	}
	return txs
}

func at(t *testing.T, first []api.Value, rows []api.Row, step int) []api.Value {
	t.Helper()
	values, e := history.At(first, rows, step)
	if e != api.OK {
		t.Fatalf("At(%d) = %d", step, e)
	}
	return values
}

func oldest(t *testing.T, rows []api.Row, step int) int64 {
	t.Helper()
	stamp, e := history.Oldest(rows, step)
	if e != api.OK {
		t.Fatalf("Oldest(%d) = %d", step, e)
	}
	return stamp
}

func outcomes(t *testing.T, rows []api.Row) []int {
	t.Helper()
	steps, e := history.Outcomes(rows)
	if e != api.OK {
		t.Fatalf("Outcomes = %d", e)
	}
	return steps
}

// sameTx tells whether two are the same; no list is an empty one.
func sameTx(a, b api.Tx) bool {
	if !slices.Equal(a.Saws, b.Saws) || !slices.Equal(a.Writes, b.Writes) {
		return false
	}
	return head(a) == head(b)
}

// heading is an attempt without its lists.
type heading struct {
	thread, job, try, attempt int
	stamp                     int64
	begin, final, end         int
	outcome                   int
}

func head(x api.Tx) heading {
	return heading{x.Thread, x.Job, x.Try, x.Attempt, x.Stamp, x.Begin, x.Final, x.End, x.Outcome}
}

// sameTxs looks that attempts are those.
func sameTxs(t *testing.T, got, want []api.Tx) {
	t.Helper()
	for i := range min(len(got), len(want)) {
		if !sameTx(got[i], want[i]) {
			t.Fatalf("attempt %d: %+v, want %+v", i, got[i], want[i])
		}
	}
	if len(got) != len(want) {
		t.Fatalf("%d attempts, want %d", len(got), len(want))
	}
}

func sameValues(t *testing.T, got, want []api.Value) {
	t.Helper()
	if !slices.Equal(got, want) {
		t.Fatalf("values %+v, want %+v", got, want)
	}
}

func sameSteps(t *testing.T, got []int, want ...int) {
	t.Helper()
	if !slices.Equal(got, want) {
		t.Fatalf("steps %v, want %v", got, want)
	}
}
