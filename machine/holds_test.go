package machine_test

import (
	"math"
	"slices"
	"testing"

	"braid/api"
	"braid/fixture"
	"braid/machine"
)

// 14.7: one row a pick; who is finished stutters, and nobody else.
func TestOneRowAPick(t *testing.T) {
	t.Parallel()
	d := fixture.NewDice()
	for n := range 1000 {
		s := fixture.Thrown(&d, n)
		all := run(t, s).Rows
		if len(all) != len(s.Picks) {
			t.Fatalf("script %d: %d rows, %d picks", n, len(all), len(s.Picks))
		}
		returned := make([]int, len(s.Threads))
		for k, r := range all {
			p := s.Picks[k]
			named := p >= 0 && p < int64(len(s.Threads))
			if !named || returned[p] == len(s.Threads[p]) {
				if r != stutter(k) {
					t.Fatalf("script %d: %q, want a stutter", n, line(r))
				}
				continue
			}
			if r.Kind == api.RowStutter || r.Step != k || int64(r.Thread) != p || r.Job != returned[p] {
				t.Fatalf("script %d: %q, want one of thread %d's job %d", n, line(r), p, returned[p])
			}
			if r.Kind == api.RowReturn {
				returned[p]++
			}
		}
	}
}

// 14.8: the rows with an access are the log.
func TestTheLogIsInTheRows(t *testing.T) {
	t.Parallel()
	d := fixture.NewDice()
	for n := range 500 {
		s := fixture.Thrown(&d, n)
		m := fresh(t, s)
		var want []api.Access
		for _, r := range ends(m).Rows {
			if r.Cell == -1 {
				if r.Seen != 0 || r.Wrote != 0 || r.Done {
					t.Fatalf("script %d: %q", n, line(r))
				}
				continue
			}
			want = append(want, api.Access{Step: r.Step, Thread: r.Thread, Kind: accessOf(r.Kind), Cell: r.Cell, Seen: r.Seen, Wrote: r.Wrote, Done: r.Done})
		}
		if !slices.Equal(m.Log(), want) {
			t.Fatalf("script %d: the log is not in the rows", n)
		}
	}
}

// 14.9: a prefix of the picks is a run, with the first rows, and the values and answers that stood there.
func TestPrefix(t *testing.T) {
	t.Parallel()
	d := fixture.NewDice()
	for n := range 200 {
		s := fixture.Thrown(&d, n)
		all := run(t, s).Rows
		m := fresh(t, s)
		for k := range len(s.Picks) + 1 {
			if d.Below(len(s.Picks)/10) == 0 || k < 2 || k == len(s.Picks) {
				short := s
				short.Picks = s.Picks[:k]
				same(t, run(t, short), machine.Result{Rows: all[:k], Answers: m.Answers(), Finals: m.Values()})
			}
			m.Step()
		}
	}
}

// 14.10: a pick of nobody, or of a thread that is finished, moves the steps behind it and nothing else.
func TestAStutterChangesNothing(t *testing.T) {
	t.Parallel()
	d := fixture.NewDice()
	for n := range 400 {
		s := fixture.Thrown(&d, n)
		s.Picks = s.Picks[:min(len(s.Picks), api.MaxPicks-1)] // one more is to be put in
		want := run(t, s)
		at := d.Below(len(s.Picks) + 1)
		more := s
		nobody := fixture.Pick[int64](&d, -1, int64(len(s.Threads)), math.MaxInt64, math.MinInt64, 6)
		for p := range s.Threads {
			if len(s.Threads[p]) == 0 && d.Below(2) == 0 {
				nobody = int64(p)
			}
		}
		more.Picks = slices.Insert(slices.Clone(s.Picks), at, nobody)
		got := run(t, more)
		if got.Rows[at] != stutter(at) {
			t.Fatalf("script %d: %q", n, line(got.Rows[at]))
		}
		got.Rows = slices.Delete(got.Rows, at, at+1)
		for k := range got.Rows[at:] {
			got.Rows[at+k].Step--
		}
		same(t, got, want)

		less := s
		less.Picks = nil
		var rows []api.Row
		for k, r := range want.Rows { // threads that are finished go too
			if r.Kind != api.RowStutter {
				r.Step = len(less.Picks)
				rows, less.Picks = append(rows, r), append(less.Picks, s.Picks[k])
			}
		}
		same(t, run(t, less), machine.Result{Rows: rows, Answers: want.Answers, Finals: want.Finals})
	}
}

// 14.11: a thread that no pick names has no row and no answer, and nobody sees what its jobs are, but that its calls of
// the set have their nodes.
func TestThreadsThatAreNotPicked(t *testing.T) {
	t.Parallel()
	d := fixture.NewDice()
	for n := range 400 {
		s := fixture.Thrown(&d, n)
		p := d.Below(len(s.Threads))
		s.Picks = slices.DeleteFunc(s.Picks, func(k int64) bool { return k == int64(p) })
		got := run(t, s)
		for _, r := range got.Rows {
			if r.Thread == p {
				t.Fatalf("script %d: %q", n, line(r))
			}
		}
		if len(got.Answers[p]) != len(s.Threads[p]) || slices.ContainsFunc(got.Answers[p], func(a api.Answer) bool { return a != (api.Answer{}) }) {
			t.Fatalf("script %d: answers %+v", n, got.Answers[p])
		}
		other := fixture.Copied(s)
		for i, j := range other.Threads[p] {
			if j.Kind != api.JobProgram {
				other.Threads[p][i] = fixture.Call(&d)
			} else {
				other.Threads[p][i] = machine.Job{Program: fixture.Deal(&d, len(s.Objects))}
			}
		}
		same(t, run(t, other), got)
	}
}
