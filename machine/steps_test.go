package machine_test

import (
	"math"
	"slices"
	"testing"

	"braid/api"
	"braid/fixture"
	"braid/machine"
)

// spoil writes over a list and its spare room.
func spoil[T any](list []T, with T) {
	list = list[:cap(list)]
	for i := range list {
		list[i] = with
	}
}

func spoilAnswers(all [][]api.Answer) {
	for _, list := range all {
		spoil(list, api.Answer{Outcome: 9, Result: 9, Yes: true, Tries: 9})
	}
	spoil(all, nil)
}

// spoilScript writes over all that a script was made of.
func spoilScript(s machine.Script) {
	spoil(s.Objects, math.MinInt64)
	spoil(s.Draws, 9)
	spoil(s.Picks, 99)
	for _, jobs := range s.Threads {
		for _, j := range jobs {
			for i := range j.Program {
				j.Program[i].Dst, j.Program[i].Code = 99, 99
			}
		}
		spoil(jobs, machine.Job{Kind: 99})
	}
	spoil(s.Threads, nil)
}

func same(t *testing.T, got, want machine.Result) {
	t.Helper()
	if !slices.Equal(got.Rows, want.Rows) {
		t.Fatalf("the rows differ")
	}
	answers(t, got.Answers, want.Answers...)
	values(t, got.Finals, want.Finals...)
}

// A run goes on as its script stood at New, whatever becomes of the script and of what the run has answered; and no call
// changes the script.
func TestNothingIsShared(t *testing.T) {
	t.Parallel()
	d := fixture.NewDice()
	for n := range 200 {
		s := fixture.Script(&d, n%api.Managers, 200)
		kept := fixture.Copied(s)
		want := run(t, s)
		if machine.Check(s) != api.OK || !fixture.SameScript(s, kept) {
			t.Fatalf("script %d has changed", n)
		}
		m := fresh(t, s)
		beside := fresh(t, s)
		first, _ := machine.First(s)
		spoilScript(s)
		values(t, m.Values(), first...)
		for k := range want.Rows {
			if got, more := m.Step(); !more || got != want.Rows[k] {
				t.Fatalf("script %d: %q, %v, want %q", n, line(got), more, line(want.Rows[k]))
			}
			spoil(m.Values(), api.Value{Num: 99, Next: 99, Dead: true})
			spoilAnswers(m.Answers())
			spoil(m.Log(), api.Access{Step: 99})
		}
		if r, more := m.Step(); more || r != (api.Row{}) {
			t.Fatalf("behind the last pick: %+v, %v", r, more)
		}
		same(t, machine.Result{Rows: want.Rows, Answers: m.Answers(), Finals: m.Values()}, want)
		same(t, ends(beside), want)
		spoil(want.Rows, api.Row{})
		spoilAnswers(want.Answers)
		spoil(want.Finals, api.Value{})
		same(t, run(t, kept), ends(fresh(t, kept)))
	}
}

// ends steps to the last pick.
func ends(m *machine.Machine) machine.Result {
	var r machine.Result
	for row, more := m.Step(); more; row, more = m.Step() {
		r.Rows = append(r.Rows, row)
	}
	r.Answers, r.Finals = m.Answers(), m.Values()
	return r
}

// Values, Answers and Log behind each step of a run in which all of them change: an outcome is seen in the values with
// the swap that decides it, and in the answers with the return behind it.
func TestBehindEachStep(t *testing.T) {
	jobs := [][]machine.Job{{program(t, "put @0 9\ndone 3"), program(t, "put @0 4\nquit")}, {insert(7)}}
	s := machine.Script{Objects: []int64{5}, Threads: jobs, Patience: 1, Picks: slices.Concat(times(14, 0), []int64{-1}, times(16, 1))}
	m := fresh(t, s)
	five, nine := api.Value{Num: 5}, api.Value{Num: 9}
	var log []api.Access
	for k := -1; k <= 30; k++ {
		if k >= 0 {
			r, more := m.Step()
			if !more || r.Step != k {
				t.Fatalf("step %d: %+v, %v", k, r, more)
			}
			if r.Cell != -1 {
				log = append(log, api.Access{Step: k, Thread: int(s.Picks[k]), Kind: accessOf(r.Kind), Cell: r.Cell, Seen: r.Seen, Wrote: r.Wrote, Done: r.Done})
			}
		}
		want := [][]api.Answer{{{}, {}}, {{}}}
		if k >= 6 {
			want[0][0] = commit(3, 1)
		}
		if k >= 13 {
			want[0][1] = api.Answer{Outcome: api.EndUser, Tries: 1}
		}
		if k >= 30 {
			want[1][0] = yes(0, 1)
		}
		held := []api.Value{five, end(), end()}
		if k >= 5 {
			held[0] = nine
		}
		if k >= 29 {
			held[1], held[2] = api.Value{Next: 2}, api.Value{Num: 7, Next: -1}
		}
		for range 2 {
			answers(t, m.Answers(), want...)
			values(t, m.Values(), held...)
			if !slices.Equal(m.Log(), log) {
				t.Fatalf("behind step %d: the log %+v, want %+v", k, m.Log(), log)
			}
		}
	}
	if len(log) != 27 {
		t.Errorf("%d accesses", len(log))
	}
}

// accessOf is the kind of the access that a row of a kind may have.
func accessOf(kind int) int {
	switch kind {
	case api.RowBegin, api.RowBoost:
		return api.AccAdd
	case api.RowPoint, api.RowStatus, api.RowMine, api.RowLook:
		return api.AccLoad
	case api.RowUp, api.RowDown, api.RowKill, api.RowAcquire, api.RowCommit, api.RowQuit:
		return api.AccSwap
	}
	return api.AccNone
}
