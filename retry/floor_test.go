package retry_test

import (
	"fmt"
	"strings"
	"testing"

	"braid/api"
	"braid/fixture"
	"braid/retry"
	"braid/txn"
)

// floor is a scene whose cell 0 is the clock, and how many steps have begun.
//
// Over two objects the cells are: 1 and 2 the genesis' status and flag, 3 and 4 the objects'; then, as they begin, each
// transaction's priority (5 the first one's) and each attempt's status and flag (6 and 7 the first one's).
type floor struct {
	*testing.T
	s     txn.Scene
	steps int
}

// lay makes a floor over the objects 7 and 8, with a clock at 0.
func lay(t *testing.T, kind, patience int) *floor {
	t.Helper()
	return layWith(t, kind, patience, 0, fixture.Numbers(7, 8), nil)
}

func layWith(t *testing.T, kind, patience int, clock int64, values []api.Value, draws []int64) *floor {
	t.Helper()
	return &floor{T: t, s: fixture.Scene(t, kind, patience, clock, values, draws)}
}

func (f *floor) ok(e api.Errno) {
	f.Helper()
	if e != api.OK {
		f.Fatalf("answers %d", e)
	}
}

func (f *floor) open() {
	f.Helper()
	f.ok(f.s.Memory.Begin(f.steps, 0))
	f.steps++
}

// fresh makes a transaction of cell 0.
func (f *floor) fresh(thread, job int) *retry.Transaction {
	f.Helper()
	return f.freshBy(0, thread, job)
}

func (f *floor) freshBy(clock, thread, job int) *retry.Transaction {
	f.Helper()
	x, e := retry.New(f.s, clock, thread, job)
	if x == nil || e != api.OK {
		f.Fatalf("New = %v, %d", x, e)
	}
	return x
}

// begun makes a transaction of cell 0 that has begun.
func (f *floor) begun(thread, job int) *retry.Transaction {
	f.Helper()
	x := f.fresh(thread, job)
	f.step(x)
	return x
}

// step takes one step within an open one of the memory.
func (f *floor) step(x *retry.Transaction) api.Row {
	f.Helper()
	f.open()
	r, e := x.Step()
	f.ok(e)
	return r
}

// run takes the steps of the operation that was asked for, to its end, and answers the last row.
func (f *floor) run(x *retry.Transaction, asked api.Errno) api.Row {
	f.Helper()
	f.ok(asked)
	var r api.Row
	for n := 0; x.State() == api.StateBusy; n++ {
		if r = f.step(x); n > 1000 {
			f.Fatal("the operation has no end")
		}
	}
	return r
}

// killed has somebody else turn the status of a transaction's attempt.
func (f *floor) killed(x *retry.Transaction) {
	f.Helper()
	f.open()
	if done, e := f.s.World.Kill(x.Number()); !done || e != api.OK {
		f.Fatalf("Kill = %v, %d", done, e)
	}
}

// fails lets an open transaction's attempt fail, killed.
func (f *floor) fails(x *retry.Transaction) {
	f.Helper()
	f.killed(x)
	if r := f.run(x, x.Finish()); r.End != api.EndKilled {
		f.Fatalf("%q", fixture.Row(r))
	}
}

// again begins the next attempt of a transaction whose last one failed.
func (f *floor) again(x *retry.Transaction) {
	f.Helper()
	if r, e := x.Step(); e != api.OK || r.Kind != api.RowAgain {
		f.Fatalf("%q, %d", fixture.Row(r), e)
	}
}

// sight is all that a transaction tells of itself.
type sight struct {
	state, outcome, tries int
	stamp, rank           int64
	number, thread, job   int
	reads                 int
	owns                  string
}

func sightOf(x *retry.Transaction, objects int) sight {
	owns := ""
	for o := -1; o <= objects; o++ {
		if x.Owns(o) {
			owns += fmt.Sprint(o, " ")
		}
	}
	return sight{
		state: x.State(), outcome: x.Outcome(), tries: x.Tries(), stamp: x.Stamp(), rank: x.Rank(),
		number: x.Number(), thread: x.Thread(), job: x.Job(), reads: x.Reads(), owns: strings.TrimSpace(owns),
	}
}

// around is what can be seen of the scene, but for the locators.
type around struct {
	cells, rows, taken, left int
	open                     api.Access
	committed                string
}

func aroundOf(s txn.Scene) around {
	a := nearOf(s)
	a.rows = len(s.Memory.Log())
	return a
}

// nearOf leaves out how many rows the log has, for they have to be counted.
func nearOf(s txn.Scene) around {
	return around{
		cells: s.Memory.Size(), taken: s.Draws.Taken(), left: s.Draws.Left(),
		open: s.Memory.Took(), committed: fmt.Sprint(s.World.Committed()),
	}
}

// tells looks what a transaction tells of itself.
func (f *floor) tells(x *retry.Transaction, want sight) {
	f.Helper()
	if got := sightOf(x, f.s.World.Objects()); got != want {
		f.Fatalf("tells %+v, want %+v", got, want)
	}
}

// unmoved looks that a call changes nothing of a transaction and of what is around it.
func (f *floor) unmoved(x *retry.Transaction, call func()) {
	f.Helper()
	own, all := sightOf(x, f.s.World.Objects()), aroundOf(f.s)
	call()
	if now := sightOf(x, f.s.World.Objects()); now != own {
		f.Fatalf("from %+v to %+v", own, now)
	}
	if now := aroundOf(f.s); now != all {
		f.Fatalf("from %+v to %+v", all, now)
	}
}

// whose is what all rows of one attempt have in common.
type whose struct{ thread, job, try, attempt int }

func whoseOf(r api.Row) whose { return whose{r.Thread, r.Job, r.Try, r.Attempt} }

// idle looks that a row has nothing in the fields that the layers above fill, or that its text leaves out.
func idle(r api.Row) bool {
	return r.Step == 0 && !r.Puts && r.Put == api.Value{} && (r.Told || r.Value == api.Value{})
}

// does takes a step for each line, and looks that its row is that line, of that attempt. Where a line tells of an
// access, a step without an open one of the memory's is refused ahead of it, twice; where it tells of none, no step is
// opened for it.
func (f *floor) does(x *retry.Transaction, who whose, lines ...string) {
	f.Helper()
	for i, line := range lines {
		rows := len(f.s.Memory.Log())
		if strings.Contains(line, "@") {
			f.refused(x)
			f.refused(x)
			f.open()
			rows++
		}
		r, e := x.Step()
		if e != api.OK || fixture.Row(r) != line {
			f.Fatalf("line %d: %q, %d, want %q", i, fixture.Row(r), e, line)
		}
		if whoseOf(r) != who || !idle(r) {
			f.Fatalf("line %d: %+v, want %+v", i, r, who)
		}
		if now := len(f.s.Memory.Log()); now != rows {
			f.Fatalf("line %d: %d accesses in all, want %d", i, now, rows)
		}
	}
}

// refused steps where the memory's step is not open.
func (f *floor) refused(x *retry.Transaction) {
	f.Helper()
	f.unmoved(x, func() {
		f.Helper()
		if r, e := x.Step(); r != (api.Row{}) || e != api.ErrClosed {
			f.Fatalf("Step without an open step = %+v, %d", r, e)
		}
	})
}

// priority tells the cell of a transaction's priority, and what it holds.
func (f *floor) priority(x *retry.Transaction) (int, int64) {
	f.Helper()
	own, e := f.s.World.Owner(x.Number())
	f.ok(e)
	held, e := f.s.Memory.Peek(own.Priority)
	f.ok(e)
	return own.Priority, held
}

// owner looks with what a transaction's present attempt was made, and what its cells are and hold.
func (f *floor) owner(x *retry.Transaction, want api.Owner, status, flag int) {
	f.Helper()
	own, _ := f.s.World.Owner(x.Number())
	s, _ := f.s.World.StatusCell(x.Number())
	g, _ := f.s.World.FlagCell(x.Number())
	if own != want || s != status || g != flag {
		f.Fatalf("owner %+v, cells %d, %d, want %+v, %d, %d", own, s, g, want, status, flag)
	}
	up, _ := f.s.Memory.Peek(g)
	if now, _ := f.s.Memory.Peek(s); now != api.Active || up != 0 {
		f.Fatalf("status %d, flag %d", now, up)
	}
}

func (f *floor) committed(nums ...int64) {
	f.Helper()
	if got, want := fmt.Sprint(f.s.World.Committed()), fmt.Sprint(fixture.Numbers(nums...)); got != want {
		f.Fatalf("committed %v, want %v", got, want)
	}
}
