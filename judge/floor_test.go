package judge_test

import (
	"slices"
	"testing"

	"braid/api"
	"braid/fixture"
	"braid/judge"
	"braid/machine"
)

// The rows and results of package fixture, by short names.
var (
	of, stutter, begin, again, back = fixture.Of, fixture.Stutter, fixture.Begin, fixture.Again, fixture.Back
	tells, reads, writes, puts      = fixture.Tells, fixture.Reads, fixture.Writes, fixture.Puts
	release, commit, quit, killed   = fixture.Release, fixture.Commit, fixture.Quit, fixture.Killed
	with, laid                      = fixture.With, fixture.Laid
	played, copied                  = fixture.Played, fixture.CopiedResult
)

// one adds 1 to object 0.
const one = "get r1 @0\nadd r1 r1 1\nput @0 r1\ndone r1"

// reread is a row that tells without an access, of an entry in the table or of an own object.
func reread(thread, object, entry int, num int64) api.Row {
	return tells(thread, api.RowLocal, api.PhaseRead, object, entry, num)
}

// takes is the row with which an open for writing ends.
func takes(thread, object, entry int, num int64) api.Row {
	return tells(thread, api.RowMine, api.PhaseWrite, object, entry, num)
}

// sets is a whole transaction of a thread that puts a number: four rows, of which the third one commits.
func sets(thread, object int, num int64) []api.Row {
	return []api.Row{begin(thread), puts(thread, object, num), commit(thread), back(thread)}
}

// list lays rows and lists of rows behind one another.
func list(parts ...any) []api.Row {
	var all []api.Row
	for _, p := range parts {
		switch p := p.(type) {
		case api.Row:
			all = append(all, p)
		case []api.Row:
			all = append(all, p...)
		}
	}
	return laid(all...)
}

// breaks is a finding.
func breaks(tx, saw int) api.Finding { return api.Finding{Tx: tx, Saw: saw} }

func good() api.Finding { return api.Finding{Good: true, Tx: -1, Saw: -1} }

func moments(t *testing.T, first []api.Value, rows []api.Row, tx int, want ...int) {
	t.Helper()
	if got, e := judge.Moments(first, rows, tx); e != api.OK || !slices.Equal(got, want) {
		t.Fatalf("Moments(%d) = %v, %d, want %v", tx, got, e, want)
	}
}

func opaque(t *testing.T, first []api.Value, rows []api.Row, want api.Finding) {
	t.Helper()
	if got, e := judge.Opaque(first, rows); e != api.OK || got != want {
		t.Fatalf("Opaque = %+v, %d, want %+v", got, e, want)
	}
}

func serial(t *testing.T, s machine.Script, r machine.Result, want api.Finding) {
	t.Helper()
	if got, e := judge.Serial(s, r); e != api.OK || got != want {
		t.Fatalf("Serial = %+v, %d, want %+v", got, e, want)
	}
}

// refused looks that Serial is refused.
func refused(t *testing.T, s machine.Script, r machine.Result, why api.Errno) {
	t.Helper()
	if got, e := judge.Serial(s, r); e != why || got != (api.Finding{}) {
		t.Fatalf("Serial = %+v, %d, want %d", got, e, why)
	}
}

// run is a script's run with its first values.
func run(t *testing.T, s machine.Script) (machine.Result, []api.Value) {
	t.Helper()
	first, e := machine.First(s)
	r, f := machine.Run(s)
	if e != api.OK || f != api.OK {
		t.Fatalf("First, Run = %d, %d", e, f)
	}
	return r, first
}

// program is a job that a text says.
func program(t *testing.T, text string) machine.Job {
	t.Helper()
	return machine.Job{Program: fixture.Program(t, text)}
}

// scripted is a script of jobs, a thread for each list, over these numbers.
func scripted(numbers []int64, threads ...[]machine.Job) machine.Script {
	return machine.Script{Objects: numbers, Threads: threads, Patience: 10}
}

// example is chapter 14's example 1, all of its rows and a stutter.
func example(t *testing.T) (machine.Script, machine.Result, []api.Value) {
	t.Helper()
	s := scripted([]int64{5}, []machine.Job{program(t, one)})
	s.Picks = make([]int64, 12)
	r, first := run(t, s)
	return s, r, first
}

func answer(result int64, tries int) api.Answer {
	return api.Answer{Outcome: api.EndCommit, Result: result, Tries: tries}
}
