package progress_test

import (
	"slices"
	"testing"

	"braid/api"
	"braid/fixture"
	"braid/history"
	"braid/machine"
	"braid/progress"
)

// The rows of package fixture, by short names.
var (
	of, stutter, begin, again, back = fixture.Of, fixture.Stutter, fixture.Begin, fixture.Again, fixture.Back
	commit, quit, killed            = fixture.Commit, fixture.Quit, fixture.Killed
	with, laid                      = fixture.With, fixture.Laid
)

// one adds 1 to object 0: eleven steps alone.
const one = "get r1 @0\nadd r1 r1 1\nput @0 r1\ndone r1"

// Two programs without a longest walk: circle never ends; shortcut does, for it never goes the circle that it has.
const (
	circle   = "x: goto x"
	shortcut = "let r1 1\nx: if r1 == 1 e\ngoto x\ne: done r1"
)

func program(t *testing.T, text string) machine.Job {
	t.Helper()
	return machine.Job{Program: fixture.Program(t, text)}
}

func insert(key int64) machine.Job { return machine.Job{Kind: api.JobInsert, Key: key} }

// thread is a thread with these jobs.
func thread(jobs ...machine.Job) []machine.Job { return jobs }

// script is one of a single object that holds 5.
func script(picks []int64, threads ...[]machine.Job) machine.Script {
	return machine.Script{Objects: []int64{5}, Threads: threads, Patience: 10, Picks: picks}
}

// times is a thread picked so often.
func times(n int, thread int64) []int64 { return slices.Repeat([]int64{thread}, n) }

func run(t *testing.T, s machine.Script) machine.Result {
	t.Helper()
	r, e := machine.Run(s)
	if e != api.OK {
		t.Fatalf("Run = %d", e)
	}
	return r
}

func committed(result int64, tries int) api.Answer {
	return api.Answer{Outcome: api.EndCommit, Result: result, Tries: tries}
}

func needs(t *testing.T, s machine.Script, thread, want int, why api.Errno) {
	t.Helper()
	if n, e := progress.Need(s, thread); n != want || e != why {
		t.Fatalf("Need(%d) = %d, %d, want %d, %d", thread, n, e, want, why)
	}
}

func finishes(t *testing.T, s machine.Script, thread, want int, answer api.Answer) {
	t.Helper()
	if n, a, e := progress.Finish(s, thread); n != want || a != answer || e != api.OK {
		t.Fatalf("Finish(%d) = %d, %+v, %d, want %d, %+v", thread, n, a, e, want, answer)
	}
}

func unfinished(t *testing.T, s machine.Script, thread int, why api.Errno) {
	t.Helper()
	if n, a, e := progress.Finish(s, thread); n != 0 || a != (api.Answer{}) || e != why {
		t.Fatalf("Finish(%d) = %d, %+v, %d, want %d", thread, n, a, e, why)
	}
}

// refused looks at both calls that take a script.
func refused(t *testing.T, s machine.Script, thread int, why api.Errno) {
	t.Helper()
	needs(t, s, thread, 0, why)
	unfinished(t, s, thread, why)
}

func fails(t *testing.T, rows []api.Row, want ...api.Failure) {
	t.Helper()
	if got, e := progress.Failures(rows); e != api.OK || !slices.Equal(got, want) {
		t.Fatalf("Failures = %+v, %d, want %+v", got, e, want)
	}
}

func clash(t *testing.T, rows []api.Row, want ...api.Clash) {
	t.Helper()
	if got, e := progress.Clashes(rows); e != api.OK || !slices.Equal(got, want) {
		t.Fatalf("Clashes = %+v, %d, want %+v", got, e, want)
	}
}

// notRows looks that both calls that take rows refuse them, as history does.
func notRows(t *testing.T, rows []api.Row) {
	t.Helper()
	if _, e := history.Check(rows); e != api.ErrRows {
		t.Fatalf("Check = %d", e)
	}
	if got, e := progress.Failures(rows); got != nil || e != api.ErrRows {
		t.Fatalf("Failures = %+v, %d", got, e)
	}
	if got, e := progress.Clashes(rows); got != nil || e != api.ErrRows {
		t.Fatalf("Clashes = %+v, %d", got, e)
	}
}
