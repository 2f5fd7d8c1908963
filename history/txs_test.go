package history_test

import (
	"math"
	"slices"
	"testing"

	"braid/api"
)

// saw is one of a number told, with nothing else to it.
func saw(step, object, entry int, num int64) api.Saw {
	return api.Saw{Step: step, Object: object, Entry: entry, Value: api.Value{Num: num}}
}

func own(s api.Saw) api.Saw      { s.Own = true; return s }
func written(s api.Saw) api.Saw  { s.Write = true; return s }
func released(s api.Saw) api.Saw { s.Released = true; return s }

func wroteTo(object int, num int64) api.Wrote {
	return api.Wrote{Object: object, Value: api.Value{Num: num}}
}

// Chapter 15's examples 1, 5 and 6.
func TestTxsOfTheChapter(t *testing.T) {
	sameTxs(t, txsOf(t, example()), []api.Tx{{
		Try: 1, Attempt: 1, Final: 4, End: 4, Outcome: api.EndCommit,
		Saws: []api.Saw{saw(2, 3, 0, 7)}, Writes: []api.Wrote{wroteTo(3, 9)},
	}})
	sameTxs(t, txsOf(t, laid(begin(0), quit(0, api.EndStale), again(0))), []api.Tx{
		{Try: 1, Attempt: 1, Final: -1, End: 1, Outcome: api.EndStale},
		{Try: 2, Attempt: 2, Begin: 2, Final: -1, End: -1},
	})
	sameTxs(t, txsOf(t, nil), nil)
	sameTxs(t, txsOf(t, laid(stutter(), stutter())), nil)
}

// Attempts of every end, side by side, in the order in which they began.
func TestTxsOfTheStory(t *testing.T) {
	sameTxs(t, txsOf(t, story()), []api.Tx{
		{Try: 1, Attempt: 1, Begin: 0, Final: 16, End: 16, Outcome: api.EndCommit,
			Saws: []api.Saw{saw(3, 2, 0, 7), written(saw(12, 2, 0, 7))}, Writes: []api.Wrote{wroteTo(2, 70)}},
		{Thread: 3, Try: 1, Attempt: 2, Stamp: 1, Begin: 2, Final: 13, End: 14, Outcome: api.EndStale,
			Saws:   []api.Saw{released(saw(4, 2, 0, 7)), saw(5, 5, 1, 8), saw(7, 5, 1, 8), written(saw(8, 5, 1, 8)), own(written(saw(9, 5, -1, 80)))},
			Writes: []api.Wrote{wroteTo(1, 81), wroteTo(5, 80)}},
		{Thread: 3, Try: 2, Attempt: 3, Stamp: 1, Begin: 15, Final: -1, End: 24, Outcome: api.EndKilled, Saws: []api.Saw{saw(19, 2, 0, 70)}},
		{Thread: 5, Try: 1, Attempt: 4, Stamp: 2, Begin: 17, Final: -1, End: 33, Outcome: api.EndBad},
		{Job: 1, Try: 1, Attempt: 5, Stamp: 3, Begin: 20, Final: -1, End: 22, Outcome: api.EndUser},
		{Thread: 3, Try: 3, Attempt: 6, Stamp: 1, Begin: 25, Final: -1, End: 34, Outcome: api.EndKilled},
		{Job: 2, Try: 1, Attempt: 7, Stamp: 4, Begin: 26, Final: -1, End: -1},
		{Thread: 3, Try: 4, Attempt: 8, Stamp: 1, Begin: 36, Final: 40, End: 40, Outcome: api.EndCommit,
			Saws: []api.Saw{written(saw(38, 0, -1, 1))}, Writes: []api.Wrote{wroteTo(0, 2)}},
		{Thread: 1, Try: 1, Attempt: 9, Stamp: 5, Begin: 41, Final: -1, End: -1,
			Saws: []api.Saw{saw(42, 2, 0, 70), saw(43, 9, 1, 1), saw(44, 4, -1, 3), written(saw(46, 9, 1, 1))}, Writes: []api.Wrote{wroteTo(9, 5)}},
	})
}

// one is the only attempt of some rows behind a begin of thread 2.
func one(t *testing.T, list ...api.Row) api.Tx {
	t.Helper()
	txs := txsOf(t, laid(append([]api.Row{begin(2)}, list...)...))
	if len(txs) != 1 {
		t.Fatalf("%d attempts", len(txs))
	}
	return txs[0]
}

func saws(t *testing.T, got []api.Saw, want ...api.Saw) {
	t.Helper()
	if !slices.Equal(got, want) {
		t.Fatalf("saws %+v, want %+v", got, want)
	}
}

func wrotes(t *testing.T, got []api.Wrote, want ...api.Wrote) {
	t.Helper()
	if !slices.Equal(got, want) {
		t.Fatalf("writes %+v, want %+v", got, want)
	}
}

// A RowLocal without an entry, and nothing else, tells of an own object; PhaseWrite, and nothing else, of a write.
func TestOwnAndWrite(t *testing.T) {
	for k := api.RowLocal; k < api.RowReturn; k++ {
		if k == api.RowRelease {
			continue
		}
		local := k == api.RowLocal
		x := one(t,
			tells(2, k, api.PhaseRead, 0, 0, 5), tells(2, k, api.PhaseRead, 0, 0, 5), tells(2, k, api.PhaseRead, 1, -1, 6),
			tells(2, k, api.PhaseWrite, 0, 0, 5), tells(2, k, api.PhaseWrite, 1, -1, 6), tells(2, k, api.PhaseRead, 8, 1, 7))
		want := []api.Saw{saw(1, 0, 0, 5), saw(2, 0, 0, 5), saw(3, 1, -1, 6), written(saw(4, 0, 0, 5)), written(saw(5, 1, -1, 6)), saw(6, 8, 1, 7)}
		want[2].Own, want[4].Own = local, local
		saws(t, x.Saws, want...)
	}
}

// All three fields of a value, and objects of any number.
func TestValuesOfSaws(t *testing.T) {
	v := api.Value{Num: math.MinInt64, Next: math.MaxInt, Dead: true}
	w := api.Value{Num: math.MaxInt64, Next: math.MinInt, Dead: true}
	x := one(t, with(writes(2, math.MaxInt, -1, 0, 0), func(r *api.Row) { r.Value, r.Put = v, w }))
	saws(t, x.Saws, api.Saw{Step: 1, Object: math.MaxInt, Entry: -1, Write: true, Value: v})
	wrotes(t, x.Writes, api.Wrote{Object: math.MaxInt, Value: w})
	x = one(t, with(reads(2, 0, -1, 0), func(r *api.Row) { r.Put = w })) // a Put without Puts
	saws(t, x.Saws, saw(1, 0, -1, 0))
	wrotes(t, x.Writes)
	x = one(t, with(puts(2, 0, 3), func(r *api.Row) { r.Value = v })) // a Value without Told
	saws(t, x.Saws)
	wrotes(t, x.Writes, wroteTo(0, 3))
}

// What a release makes of what was told, ahead of it and behind it, with the same entry.
func TestReleased(t *testing.T) {
	x := one(t, reads(2, 0, 0, 5), reads(2, 1, 1, 6), tells(2, api.RowLocal, api.PhaseRead, 0, 0, 5), release(2, 0),
		reads(2, 0, 2, 7), reads(2, 0, 0, 5), writes(2, 0, 0, 5, 5))
	saws(t, x.Saws, released(saw(1, 0, 0, 5)), saw(2, 1, 1, 6), released(saw(3, 0, 0, 5)), saw(5, 0, 2, 7),
		released(saw(6, 0, 0, 5)), released(written(saw(7, 0, 0, 5))))

	x = one(t, reads(2, 0, -1, 5), release(2, -1), writes(2, 0, -1, 5, 5), release(2, -1)) // Entry -1 never is
	saws(t, x.Saws, saw(1, 0, -1, 5), written(saw(3, 0, -1, 5)))

	x = one(t, reads(2, 0, 0, 5), reads(2, 1, 1, 5), reads(2, 2, 2, 5), release(2, 1), release(2, 1), release(2, -1), release(2, 2))
	saws(t, x.Saws, saw(1, 0, 0, 5), released(saw(2, 1, 1, 5)), released(saw(3, 2, 2, 5)))

	// an entry of a row of another kind is no release
	x = one(t, reads(2, 0, 0, 5), with(of(2, api.RowPoint), func(r *api.Row) { r.Entry = 0 }), with(puts(2, 0, 1), func(r *api.Row) { r.Entry = 0 }))
	saws(t, x.Saws, saw(1, 0, 0, 5))

	// by another attempt, of another thread or of the same: none of this one's
	txs := txsOf(t, laid(begin(0), begin(1), reads(0, 0, 0, 5), reads(1, 0, 0, 5), release(1, 0), quit(0, api.EndStale), again(0),
		reads(0, 0, 0, 5), release(0, 0), quit(0, api.EndStale), again(0), reads(0, 0, 0, 5)))
	saws(t, txs[0].Saws, saw(2, 0, 0, 5))
	saws(t, txs[1].Saws, released(saw(3, 0, 0, 5)))
	saws(t, txs[2].Saws, released(saw(7, 0, 0, 5)))
	saws(t, txs[3].Saws, saw(11, 0, 0, 5))
}

// One for each object, in the order of the numbers, with what was put last.
func TestWrites(t *testing.T) {
	x := one(t, puts(2, 9, 1), puts(2, 3, 2), puts(2, 9, 3), puts(2, math.MaxInt, 4), puts(2, 0, 5), puts(2, 3, 6), puts(2, 3, 2))
	wrotes(t, x.Writes, wroteTo(0, 5), wroteTo(3, 2), wroteTo(9, 3), wroteTo(math.MaxInt, 4))
	x = one(t, puts(2, 4, 7), puts(2, 4, 0)) // a value of nothing but zeros is one
	wrotes(t, x.Writes, wroteTo(4, 0))

	// in every row of an attempt, the last one too
	for k := api.RowLocal; k < api.RowReturn; k++ {
		x = one(t, with(puts(2, 4, 7), func(r *api.Row) { r.Kind = k }))
		wrotes(t, x.Writes, wroteTo(4, 7))
	}
	x = one(t, puts(2, 4, 1), with(commit(2), func(r *api.Row) { r.Object, r.Puts, r.Put.Num = 4, true, 8 }))
	wrotes(t, x.Writes, wroteTo(4, 8))

	var many []api.Row
	var want []api.Wrote
	for n := range 100 {
		many = append(many, puts(2, n*37%100, int64(n)))
	}
	for n := range 100 {
		want = append(want, wroteTo(n, int64(n*73%100))) // 37 * 73 = 2701
	}
	for range 5 {
		wrotes(t, one(t, many...).Writes, want...)
	}
}

// What one that has not committed put is told all the same; each attempt has its own.
func TestWritesOfEachAttempt(t *testing.T) {
	txs := txsOf(t, laid(begin(0), puts(0, 1, 1), begin(1), puts(1, 1, 9), quit(0, api.EndStale), again(0), puts(0, 2, 2), killed(0, api.RowWait),
		again(0), puts(0, 3, 3), quit(0, api.EndUser), back(0), begin(0), puts(0, 4, 4), quit(0, api.EndBad), back(0), begin(0), puts(0, 5, 5)))
	var got []api.Wrote
	for _, x := range txs {
		got = append(got, x.Writes...)
	}
	wrotes(t, got, wroteTo(1, 1), wroteTo(1, 9), wroteTo(2, 2), wroteTo(3, 3), wroteTo(4, 4), wroteTo(5, 5))
}

// phased is a row in a phase.
func phased(r api.Row, phase int) api.Row {
	r.Phase = phase
	return r
}

// The first row in PhaseFinal, of those that are the attempt's.
func TestFinal(t *testing.T) {
	point := phased(of(2, api.RowPoint), api.PhaseFinal)
	final := func(want int, list ...api.Row) {
		t.Helper()
		if x := one(t, list...); x.Final != want {
			t.Errorf("Final %d, want %d", x.Final, want)
		}
	}
	final(-1)
	final(-1, of(2, api.RowPoint), quit(2, api.EndUser))
	final(1, commit(2))
	final(2, of(2, api.RowPoint), point, of(2, api.RowStatus), point, commit(2))
	final(1, phased(quit(2, api.EndStale), api.PhaseFinal))
	final(-1, phased(quit(2, api.EndStale), api.PhaseRead))
	final(-1, phased(commit(2), api.PhaseNone)) // a committed one, even
	final(-1, phased(of(2, api.RowPoint), api.PhaseFinal+1), phased(of(2, api.RowPoint), math.MinInt))
	final(-1, quit(2, api.EndBad), phased(back(2), api.PhaseFinal)) // a RowReturn is none of its rows
	final(-1, phased(stutter(), api.PhaseFinal))
	for k := api.RowLocal; k < api.RowReturn; k++ {
		final(1, phased(of(2, k), api.PhaseFinal))
	}

	// its own RowBegin or RowAgain is none of them, and neither are another's rows
	txs := txsOf(t, laid(phased(begin(0), api.PhaseFinal), phased(begin(1), api.PhaseFinal), phased(of(1, api.RowPoint), api.PhaseFinal),
		quit(0, api.EndStale), phased(again(0), api.PhaseFinal), commit(1)))
	if txs[0].Final != -1 || txs[1].Final != 2 || txs[2].Final != -1 {
		t.Errorf("%+v", txs)
	}
}

// Begin, End and the outcome: each end, in each kind of row that may have it.
func TestEndOfAnAttempt(t *testing.T) {
	for e := api.EndUser; e <= api.EndKilled; e++ {
		if x := one(t, stutter(), of(2, api.RowPoint), quit(2, e), stutter()); x.End != 3 || x.Outcome != e || x.Begin != 0 || x.Thread != 2 {
			t.Errorf("%+v", x)
		}
	}
	for k := api.RowLocal; k < api.RowReturn; k++ {
		for _, e := range []int{api.EndStale, api.EndKilled} {
			if x := one(t, with(of(2, k), func(r *api.Row) { r.End = e })); x.End != 1 || x.Outcome != e {
				t.Errorf("%+v", x)
			}
		}
	}
	if x := one(t, of(2, api.RowCommit), quit(2, api.EndNone)); x.End != -1 || x.Outcome != api.EndNone {
		t.Errorf("%+v", x)
	}
	if x := one(t, commit(2), stutter(), back(2)); x.End != 1 || x.Outcome != api.EndCommit {
		t.Errorf("%+v", x)
	}
}

// The stamp is that of the transaction, whatever its later rows have seen.
func TestStamp(t *testing.T) {
	saw := func(r api.Row, n int64) api.Row { return with(r, func(r *api.Row) { r.Seen = n }) }
	rows := laid(begin(4), begin(2), saw(quit(2, api.EndStale), 8), begin(3), saw(again(2), 9), commit(4), back(4), saw(of(2, api.RowPoint), 7),
		saw(quit(2, api.EndKilled), 6), begin(4), saw(again(2), 5), quit(2, api.EndUser), saw(back(2), 4), begin(2))
	var stamps []int64
	for _, x := range txsOf(t, rows) {
		stamps = append(stamps, x.Stamp)
	}
	if !slices.Equal(stamps, []int64{0, 1, 2, 1, 3, 1, 4}) {
		t.Errorf("stamps %v", stamps)
	}
}
