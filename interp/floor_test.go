package interp_test

import (
	"fmt"
	"math"
	"strings"
	"testing"

	"braid/api"
	"braid/fixture"
	"braid/interp"
	"braid/lang"
	"braid/retry"
	"braid/txn"
)

// floor is a scene whose cell 0 is the clock, and how many steps have begun.
//
// Over two objects the cells are: 1 and 2 the genesis' status and flag, 3 and 4 the objects'; then, as they begin, each
// transaction's priority (5 the first one's) and each attempt's status and flag (6 and 7 the first one's).
type floor struct {
	*testing.T
	s     txn.Scene
	steps int
}

// lay makes a floor over the objects 7 and 8.
func lay(t *testing.T, kind, patience int) *floor {
	t.Helper()
	return &floor{T: t, s: fixture.Scene(t, kind, patience, 0, fixture.Numbers(7, 8), nil)}
}

// layOver makes a floor over these numbers, under a manager that waits one step at most.
func layOver(t *testing.T, nums ...int64) *floor {
	t.Helper()
	return &floor{T: t, s: fixture.Scene(t, api.Polite, 1, 0, fixture.Numbers(nums...), nil)}
}

func (f *floor) fresh(thread, job int) *retry.Transaction {
	f.Helper()
	x, e := retry.New(f.s, 0, thread, job)
	if x == nil || e != api.OK {
		f.Fatalf("retry.New = %v, %d", x, e)
	}
	return x
}

// job makes a job of thread 2, its number 5, that may name all objects of the floor.
func (f *floor) job(text string) *interp.Job {
	f.Helper()
	return f.jobOf(2, 5, fixture.Program(f.T, text))
}

func (f *floor) jobOf(thread, number int, code []lang.Instr) *interp.Job {
	f.Helper()
	j, e := interp.New(f.fresh(thread, number), code, f.s.World.Objects())
	if j == nil || e != api.OK {
		f.Fatalf("New(%+v) = %v, %d", code, j, e)
	}
	return j
}

// jobWith makes a job that may name so many objects.
func (f *floor) jobWith(text string, objects int) *interp.Job {
	f.Helper()
	j, e := interp.New(f.fresh(2, 5), fixture.Program(f.T, text), objects)
	f.ok(e)
	return j
}

func (f *floor) ok(e api.Errno) {
	f.Helper()
	if e != api.OK {
		f.Fatalf("answers %d", e)
	}
}

func (f *floor) open() {
	f.Helper()
	f.ok(f.s.Memory.Begin(f.steps, 0))
	f.steps++
}

// step takes one step within an open one of the memory, of which nothing is left behind it.
func (f *floor) step(j *interp.Job) api.Row {
	f.Helper()
	f.open()
	r, e := j.Step()
	f.ok(e)
	if r.Cell == -1 {
		f.s.Memory.Load(2)
	}
	return r
}

// must takes one step of a kind, in what is open of the memory.
func (f *floor) must(j *interp.Job, kind int) {
	f.Helper()
	if r, e := j.Step(); e != api.OK || r.Kind != kind {
		f.Fatalf("%q, %d, want %s", fixture.Row(r), e, fixture.Kind(kind))
	}
}

// run takes steps to the end of a job, and answers its rows.
func (f *floor) run(j *interp.Job) []api.Row {
	f.Helper()
	var rows []api.Row
	for !j.Over() {
		if rows = append(rows, f.step(j)); len(rows) > 5000 {
			f.Fatal("the job has no end")
		}
	}
	return rows
}

// until takes steps to the first row of a kind.
func (f *floor) until(j *interp.Job, kind int) api.Row {
	f.Helper()
	for range 1000 {
		if r := f.step(j); r.Kind == kind {
			return r
		}
	}
	f.Fatalf("no %s", fixture.Kind(kind))
	return api.Row{}
}

// killed has somebody else turn the status of an attempt.
func (f *floor) killed(attempt int) {
	f.Helper()
	f.open()
	if done, e := f.s.World.Kill(attempt); !done || e != api.OK {
		f.Fatalf("Kill = %v, %d", done, e)
	}
}

// overtaken has another job, of thread 8, commit a number.
func (f *floor) overtaken(object int, n int64) {
	f.Helper()
	f.run(f.jobOf(8, 8, []lang.Instr{{Code: lang.Put, Obj: fixture.Num(int64(object)), X: fixture.Num(n)}}))
	if now := f.s.World.Committed()[object]; now != (api.Value{Num: n}) {
		f.Fatalf("object %d holds %+v", object, now)
	}
}

func (f *floor) committed(nums ...int64) {
	f.Helper()
	if got, want := fmt.Sprint(f.s.World.Committed()), fmt.Sprint(fixture.Numbers(nums...)); got != want {
		f.Fatalf("committed %v, want %v", got, want)
	}
}

// sight is all that a job tells of itself.
type sight struct {
	place  int
	over   bool
	answer api.Answer
}

func sightOf(j *interp.Job) sight { return sight{j.Place(), j.Over(), j.Answer()} }

// around is what can be seen of the scene, but for the log.
type around struct {
	cells, taken int
	open         api.Access
	committed    string
}

func aroundOf(s txn.Scene) around {
	return around{s.Memory.Size(), s.Draws.Taken(), s.Memory.Took(), fmt.Sprint(s.World.Committed())}
}

func (f *floor) tells(j *interp.Job, want sight) {
	f.Helper()
	if got := sightOf(j); got != want {
		f.Fatalf("tells %+v, want %+v", got, want)
	}
}

// answers looks that a job is over, at that place and with that answer, and takes no further step.
func (f *floor) answers(j *interp.Job, place, outcome int, result int64, tries int) {
	f.Helper()
	want := sight{place, true, api.Answer{Outcome: outcome, Result: result, Tries: tries}}
	f.tells(j, want)
	f.open()
	f.refused(j, api.ErrEnded)
	f.tells(j, want)
}

// refused steps where a step is refused, and looks that nothing has changed.
func (f *floor) refused(j *interp.Job, why api.Errno) {
	f.Helper()
	own, all, rows := sightOf(j), aroundOf(f.s), len(f.s.Memory.Log())
	if r, e := j.Step(); r != (api.Row{}) || e != why {
		f.Fatalf("Step = %+v, %d, want %d", r, e, why)
	}
	if now := sightOf(j); now != own {
		f.Fatalf("from %+v to %+v", own, now)
	}
	if now := aroundOf(f.s); now != all || len(f.s.Memory.Log()) != rows {
		f.Fatalf("from %+v to %+v", all, now)
	}
}

// whose is what all rows of one attempt have in common.
type whose struct{ thread, job, try, attempt int }

func whoseOf(r api.Row) whose { return whose{r.Thread, r.Job, r.Try, r.Attempt} }

// does takes a step for each line, and looks that its row is what stands in the line ahead of the stroke, of that
// attempt, and that the place behind it is what stands behind the stroke. Where a line tells of an access, a step
// without an open one of the memory's is refused ahead of it, twice; where it tells of none, no step is opened for it.
func (f *floor) does(j *interp.Job, who whose, lines ...string) {
	f.Helper()
	for i, line := range lines {
		rows := len(f.s.Memory.Log())
		if strings.Contains(line, "@") {
			f.refused(j, api.ErrClosed)
			f.refused(j, api.ErrClosed)
			f.open()
			rows++
		}
		r, e := j.Step()
		if got := fmt.Sprintf("%s | %d", fixture.Row(r), j.Place()); e != api.OK || got != line {
			f.Fatalf("line %d: %q, %d, want %q", i, got, e, line)
		}
		if whoseOf(r) != who || r.Step != 0 || !r.Told && r.Value != (api.Value{}) || !r.Puts && r.Put != (api.Value{}) {
			f.Fatalf("line %d: %+v, want %+v", i, r, who)
		}
		if now := len(f.s.Memory.Log()); now != rows {
			f.Fatalf("line %d: %d accesses in all, want %d", i, now, rows)
		}
		if over := r.Kind == api.RowReturn; j.Over() != over || !over && j.Answer() != (api.Answer{}) {
			f.Fatalf("line %d: %q: over is %v, the answer %+v", i, line, j.Over(), j.Answer())
		}
	}
}

// badNumbers are numbers that no object has where there are so many.
func badNumbers(many int) []int64 {
	n := int64(many)
	return []int64{n, n + 1, -1, -2, 16, 17, 255, 256, 1<<32 + 1, -1 << 32, math.MaxInt32, math.MinInt32, math.MaxInt64, math.MaxInt64 - 1, math.MinInt64, math.MinInt64 + 1}
}
