package shrink_test

import (
	"slices"
	"testing"

	"braid/api"
	"braid/fixture"
	"braid/machine"
	"braid/shrink"
)

// program is a job that a text says.
func program(t *testing.T, text string) machine.Job {
	t.Helper()
	return machine.Job{Program: fixture.Program(t, text)}
}

// thread is a thread whose jobs texts say.
func thread(t *testing.T, texts ...string) []machine.Job {
	t.Helper()
	var jobs []machine.Job
	for _, text := range texts {
		jobs = append(jobs, program(t, text))
	}
	return jobs
}

func insert(key int64) machine.Job { return machine.Job{Kind: api.JobInsert, Key: key} }

// script is one of two objects that hold 0.
func script(picks []int64, threads ...[]machine.Job) machine.Script {
	return machine.Script{Objects: []int64{0, 0}, Threads: threads, Patience: 10, Picks: picks}
}

// list is picks: a thread, and how often; the next one, and how often.
func list(pairs ...int64) []int64 {
	var picks []int64
	for i := 0; i < len(pairs); i += 2 {
		picks = append(picks, times(int(pairs[i+1]), pairs[i])...)
	}
	return picks
}

// times is a thread picked so often.
func times(n int, thread int64) []int64 { return slices.Repeat([]int64{thread}, n) }

// turns are n picks of the threads 0 and 1, one behind the other.
func turns(n int) []int64 { return slices.Repeat([]int64{0, 1}, n/2) }

func run(t *testing.T, s machine.Script) []api.Row {
	t.Helper()
	r, e := machine.Run(s)
	if e != api.OK {
		t.Fatalf("Run = %d", e)
	}
	return r.Rows
}

// lastOf is the last row of a run.
func lastOf(t *testing.T, s machine.Script) api.Row {
	t.Helper()
	rows := run(t, s)
	return rows[len(rows)-1]
}

// fulfils looks that a run has these wishes and no others.
func fulfils(t *testing.T, s machine.Script, wishes ...int) {
	t.Helper()
	for wish := range api.Wishes {
		want := slices.Contains(wishes, wish)
		if got, e := shrink.Has(s, wish); got != want || e != api.OK {
			t.Fatalf("picks %v: Has(%d) = %v, %d, want %v", s.Picks, wish, got, e, want)
		}
	}
}

// needs looks which picks are left, that the script stays as it was, and that nothing more goes.
func needs(t *testing.T, s machine.Script, wish int, want ...int64) {
	t.Helper()
	kept := fixture.Copied(s)
	for range 2 {
		if got, e := shrink.Picks(s, wish); !slices.Equal(got, want) || e != api.OK {
			t.Fatalf("Picks(%d) = %v, %d, want %v", wish, got, e, want)
		}
		if !fixture.SameScript(s, kept) {
			t.Fatalf("Picks(%d) has changed the script to %+v", wish, s)
		}
		s.Picks, kept.Picks = want, want
	}
}

// keeps looks which jobs are left, that the script stays as it was, and that nothing more goes.
func keeps(t *testing.T, s machine.Script, wish int, want ...[]machine.Job) {
	t.Helper()
	kept := fixture.Copied(s)
	for range 2 {
		if got, e := shrink.Jobs(s, wish); !sameThreads(got, want) || e != api.OK {
			t.Fatalf("Jobs(%d) = %+v, %d, want %+v", wish, got, e, want)
		}
		if !fixture.SameScript(s, kept) {
			t.Fatalf("Jobs(%d) has changed the script to %+v", wish, s)
		}
		s.Threads, kept.Threads = want, want
	}
}

func sameThreads(a, b [][]machine.Job) bool {
	return fixture.SameScript(machine.Script{Threads: a}, machine.Script{Threads: b})
}

// unshrunk looks that neither picks nor jobs are answered.
func unshrunk(t *testing.T, s machine.Script, wish int, why api.Errno) {
	t.Helper()
	if got, e := shrink.Picks(s, wish); got != nil || e != why {
		t.Fatalf("%d picks: Picks(%d) = %v, %d, want %d", len(s.Picks), wish, got, e, why)
	}
	if got, e := shrink.Jobs(s, wish); got != nil || e != why {
		t.Fatalf("%d picks: Jobs(%d) = %+v, %d, want %d", len(s.Picks), wish, got, e, why)
	}
}

// refused looks at all three calls.
func refused(t *testing.T, s machine.Script, wish int, why api.Errno) {
	t.Helper()
	if got, e := shrink.Has(s, wish); got || e != why {
		t.Fatalf("%d picks: Has(%d) = %v, %d, want %d", len(s.Picks), wish, got, e, why)
	}
	unshrunk(t, s, wish, why)
}
