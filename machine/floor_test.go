package machine_test

import (
	"fmt"
	"slices"
	"strings"
	"testing"

	"braid/api"
	"braid/fixture"
	"braid/machine"
)

// one adds 1 to object 0.
const one = "get r1 @0\nadd r1 r1 1\nput @0 r1\ndone r1"

// program is a job that a text says.
func program(t *testing.T, text string) machine.Job {
	t.Helper()
	return machine.Job{Program: fixture.Program(t, text)}
}

// programs are threads with one job each.
func programs(t *testing.T, texts ...string) [][]machine.Job {
	t.Helper()
	var threads [][]machine.Job
	for _, text := range texts {
		threads = append(threads, []machine.Job{program(t, text)})
	}
	return threads
}

func insert(key int64) machine.Job   { return machine.Job{Kind: api.JobInsert, Key: key} }
func remove(key int64) machine.Job   { return machine.Job{Kind: api.JobRemove, Key: key} }
func contains(key int64) machine.Job { return machine.Job{Kind: api.JobContains, Key: key} }
func least() machine.Job             { return machine.Job{Kind: api.JobLeast} }
func size() machine.Job              { return machine.Job{Kind: api.JobSize} }
func move(key, other int64) machine.Job {
	return machine.Job{Kind: api.JobMove, Key: key, Other: other}
}

// times is a thread picked so often.
func times(n int, thread int64) []int64 { return slices.Repeat([]int64{thread}, n) }

// turns is so many picks of these threads, one behind the other.
func turns(n int, threads ...int64) []int64 {
	return slices.Repeat(threads, n/len(threads)+1)[:n]
}

// fresh makes a run of a script that may be.
func fresh(t *testing.T, s machine.Script) *machine.Machine {
	t.Helper()
	m, e := machine.New(s)
	if m == nil || e != api.OK {
		t.Fatalf("New = %v, %d", m, e)
	}
	return m
}

func run(t *testing.T, s machine.Script) machine.Result {
	t.Helper()
	r, e := machine.Run(s)
	if e != api.OK {
		t.Fatalf("Run = %d", e)
	}
	return r
}

// stutter is a row of nobody.
func stutter(step int) api.Row {
	return api.Row{Step: step, Thread: -1, Job: -1, Attempt: -1, Object: -1, Entry: -1, Enemy: -1, Cell: -1}
}

// line tells a row: its step, its thread, job, try and attempt, and what it is.
func line(r api.Row) string {
	if r == stutter(r.Step) {
		return fmt.Sprint(r.Step, " stutter")
	}
	return fmt.Sprintf("%d %d.%d.%d.%d %s", r.Step, r.Thread, r.Job, r.Try, r.Attempt, fixture.Row(r))
}

func lines(rows []api.Row) []string {
	var all []string
	for _, r := range rows {
		all = append(all, line(r))
	}
	return all
}

// rows looks that a run's rows are these lines.
func rows(t *testing.T, got []api.Row, want string) {
	t.Helper()
	all := strings.Split(strings.TrimSpace(want), "\n")
	for i, r := range got {
		if i == len(all) || line(r) != all[i] {
			t.Fatalf("%q, want %q", line(r), all[min(i, len(all)-1)])
		}
	}
	if len(all) > len(got) {
		t.Fatalf("behind the last row %q is wanted", all[len(got)])
	}
}

func answers(t *testing.T, got [][]api.Answer, want ...[]api.Answer) {
	t.Helper()
	if !slices.EqualFunc(got, want, slices.Equal) {
		t.Fatalf("answers %+v, want %+v", got, want)
	}
}

func commit(result int64, tries int) api.Answer {
	return api.Answer{Outcome: api.EndCommit, Result: result, Tries: tries}
}

func yes(result int64, tries int) api.Answer {
	return api.Answer{Outcome: api.EndCommit, Yes: true, Result: result, Tries: tries}
}

func no(tries int) api.Answer { return commit(0, tries) }

func values(t *testing.T, got []api.Value, want ...api.Value) {
	t.Helper()
	if !slices.Equal(got, want) {
		t.Fatalf("values %+v, want %+v", got, want)
	}
}

// end is what a head without nodes holds, and a node that is not linked.
func end() api.Value { return api.Value{Next: -1} }
