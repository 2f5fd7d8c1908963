package history_test

import (
	"math"
	"slices"
	"testing"

	"braid/api"
	"braid/fixture"
	"braid/machine"
)

// spoils changes one field of a row, most often to what might stand there.
func spoils(d *fixture.Dice, rows []api.Row) []api.Row {
	rows = slices.Clone(rows)
	i := d.Below(len(rows))
	if d.Below(3) == 0 { // or what stands in another one
		k := d.Below(len(rows))
		rows[i], rows[k] = rows[k], rows[i]
		rows[i].Step, rows[k].Step = i, k
		return rows
	}
	set := fixture.Pick(d, fields()...)
	set(&rows[i], fixture.Pick(d, d.Below(20)-2, d.Below(6), i, math.MinInt, math.MaxInt))
	return rows
}

// beside lays all calls beside the plain ones, at every step.
func beside(t *testing.T, rows []api.Row, first []api.Value) {
	t.Helper()
	want := plain(rows)
	checks(t, rows, -1)
	sameTxs(t, txsOf(t, rows), want.txs())
	sameSteps(t, outcomes(t, rows), want.outcomes()...)
	for step := -1; step < len(rows); step++ {
		sameValues(t, at(t, first, rows, step), want.at(first, step))
		if got, want := oldest(t, rows, step), want.oldest(step); got != want {
			t.Fatalf("Oldest(%d) = %d, want %d", step, got, want)
		}
	}
}

// Thrown rows, with anything where nothing is looked at, and spoilt ones.
func TestThrownRows(t *testing.T) {
	t.Parallel()
	d := fixture.NewDice()
	good, bad := 0, 0
	for range 2000 {
		rows := fixture.Rows(&d, 1+d.Below(80))
		beside(t, rows, fixture.Numbers(5, 6, 7, 8)[:d.Below(5)])
		for range 6 {
			spoilt := spoils(&d, rows)
			place := plain(spoilt).check()
			checks(t, spoilt, place)
			if place < 0 {
				good++
			} else {
				bad++
			}
		}
	}
	if good < 600 || bad < 4000 {
		t.Errorf("%d spoilt ones may stand, %d may not", good, bad)
	}
}

// 15.6: what the first rows tell of themselves stays, whatever comes behind.
func beginnings(t *testing.T, rows []api.Row, first []api.Value, k int) {
	t.Helper()
	checks(t, rows[:k], -1)
	all, some := txsOf(t, rows), txsOf(t, rows[:k])
	for i, x := range all {
		if x.Begin >= k {
			all = all[:i]
			break
		}
	}
	if len(some) != len(all) {
		t.Fatalf("%d attempts of the first %d rows, want %d", len(some), k, len(all))
	}
	for i := range some {
		stays(t, some[i], all[i], rows, k)
	}
	for step := -1; step < k; step++ {
		sameValues(t, at(t, first, rows[:k], step), at(t, first, rows, step))
		if got, want := oldest(t, rows[:k], step), oldest(t, rows, step); got != want {
			t.Fatalf("Oldest(%d) = %d of %d rows, %d of all", step, got, k, want)
		}
	}
}

// stays looks that an attempt of the first rows is what it is in all of them, as far as it has come.
func stays(t *testing.T, some, all api.Tx, rows []api.Row, k int) {
	t.Helper()
	if all.End >= k {
		all.End, all.Outcome = -1, api.EndNone
	}
	if all.Final >= k {
		all.Final = -1
	}
	told := 0
	for _, s := range all.Saws {
		if s.Step < k {
			told++
		}
	}
	if head(some) != head(all) || len(some.Saws) != told {
		t.Fatalf("%+v of %d rows, %+v of all", some, k, all)
	}
	for i, s := range some.Saws {
		late := all.Saws[i]
		if s.Released && !late.Released {
			t.Fatalf("%+v is released no more: %+v", s, late)
		}
		if s.Released = late.Released; s != late {
			t.Fatalf("%+v of %d rows, %+v of all", s, k, late)
		}
	}
	if all.End >= 0 && !sameTx(some, all) { // it had ended
		t.Fatalf("%+v of %d rows, %+v of all", some, k, all)
	}
}

func TestBeginningsOfThrownRows(t *testing.T) {
	t.Parallel()
	d := fixture.NewDice()
	for range 100 {
		rows := fixture.Rows(&d, 50)
		for k := range len(rows) + 1 {
			beginnings(t, rows, fixture.Numbers(5, 6, 7), k)
		}
	}
}

// run is a thrown script's run with its first values.
func run(t *testing.T, s machine.Script) (machine.Result, []api.Value) {
	t.Helper()
	first, e := machine.First(s)
	r, f := machine.Run(s)
	if e != api.OK || f != api.OK {
		t.Fatalf("First, Run = %d, %d", e, f)
	}
	return r, first
}

// 15.1 and 15.6 of runs: the rows of each beginning may stand.
func TestBeginningsOfRuns(t *testing.T) {
	t.Parallel()
	d := fixture.NewDice()
	for n := range 150 {
		r, first := run(t, fixture.Thrown(&d, n))
		for k := range len(r.Rows) + 1 {
			if len(r.Rows) < 1000 {
				checks(t, r.Rows[:k], -1)
			}
		}
		for range 3 {
			beginnings(t, r.Rows[:min(len(r.Rows), 400)], first, d.Below(min(len(r.Rows), 400)+1))
		}
	}
}

// The calls beside the plain ones, over runs.
func TestRuns(t *testing.T) {
	t.Parallel()
	d := fixture.NewDice()
	for n := range 200 {
		s := fixture.Thrown(&d, n)
		s.Picks = s.Picks[:min(len(s.Picks), 150)]
		r, first := run(t, s)
		beside(t, r.Rows, first)
	}
}

// A run's rows that are spoilt somewhere.
func TestSpoiltRuns(t *testing.T) {
	t.Parallel()
	d := fixture.NewDice()
	for n := range 300 {
		s := fixture.Thrown(&d, n)
		s.Picks = s.Picks[:min(len(s.Picks), 150)]
		r, _ := run(t, s)
		for range 10 {
			spoilt := spoils(&d, r.Rows)
			checks(t, spoilt, plain(spoilt).check())
		}
	}
}

// 15.7: the values behind each step are the machine's; the outcomes are those of the answers, and of the jobs that have
// reached one and not returned.
func TestARunsOwn(t *testing.T) {
	t.Parallel()
	d := fixture.NewDice()
	answered, waiting, tried := 0, 0, 0
	for n := range 400 {
		s := fixture.Thrown(&d, n)
		r, first := run(t, s)
		m, e := machine.New(s)
		if e != api.OK {
			t.Fatalf("New = %d", e)
		}
		sameValues(t, at(t, first, r.Rows, -1), first)
		for step := range r.Rows {
			m.Step()
			if len(r.Rows) < 1000 || d.Below(100) == 0 {
				sameValues(t, at(t, first, r.Rows, step), m.Values())
			}
		}
		sameValues(t, at(t, first, r.Rows, len(r.Rows)-1), r.Finals)

		has, open := decisions(s, r)
		answered, waiting = answered+has, waiting+open
		if got := outcomes(t, r.Rows); len(got) != has+open {
			t.Fatalf("script %d: %d outcomes, want %d and %d", n, len(got), has, open)
		}
		tried += tries(t, txsOf(t, r.Rows))
	}
	if answered < 1000 || waiting < 20 || tried < 200 {
		t.Errorf("%d answers, %d jobs that had not returned, %d further attempts", answered, waiting, tried)
	}
}

// decisions counts the jobs that have answered, and those that have their outcome and have not.
func decisions(s machine.Script, r machine.Result) (has, open int) {
	for p, jobs := range s.Threads {
		for j := range jobs {
			if r.Answers[p][j].Outcome != api.EndNone {
				has++
			} else if slices.ContainsFunc(r.Rows, func(r api.Row) bool { return r.Thread == p && r.Job == j && decided(r.End) }) {
				open++
			}
		}
	}
	return has, open
}

// tries looks that of two attempts of one transaction the earlier one has ended ahead of the later one's begin, and
// counts those that come behind another.
func tries(t *testing.T, txs []api.Tx) int {
	t.Helper()
	n := 0
	for i, x := range txs {
		if x.Attempt != i+1 {
			t.Fatalf("place %d: %+v", i, x)
		}
		for _, y := range txs[:i] {
			if y.Stamp != x.Stamp {
				continue
			}
			n++
			if y.End < 0 || y.End >= x.Begin || y.Thread != x.Thread || y.Job != x.Job || y.Try >= x.Try {
				t.Fatalf("%+v ahead of %+v", y, x)
			}
		}
	}
	return n
}

// More rows and attempts than a run has.
func TestManyRows(t *testing.T) {
	var list []api.Row
	for n := range 5000 {
		list = append(list, begin(0), reads(0, n, 0, 1), release(0, 0), puts(0, n%50, int64(n)), commit(0), back(0))
	}
	list = append(list, begin(0))
	for n := range 20000 {
		list = append(list, reads(0, n, n, 1), release(0, n), puts(0, n, 5))
	}
	rows := laid(list...)
	txs := txsOf(t, rows)
	if last := txs[len(txs)-1]; len(txs) != 5001 || len(last.Saws) != 20000 || len(last.Writes) != 20000 || !last.Saws[19999].Released {
		t.Errorf("%d attempts, the last one with %d saws and %d writes", len(txs), len(last.Saws), len(last.Writes))
	}
	sameValues(t, at(t, fixture.Numbers(3, 4), rows, len(rows)-1), fixture.Numbers(4950, 4951))
	if o := oldest(t, rows, len(rows)-1); o != 5000 {
		t.Errorf("Oldest = %d", o)
	}
	if steps := outcomes(t, rows); len(steps) != 5000 {
		t.Errorf("%d outcomes", len(steps))
	}
}
