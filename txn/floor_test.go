package txn_test

import (
	"fmt"
	"strings"
	"testing"

	"braid/api"
	"braid/cell"
	"braid/cm"
	"braid/fixture"
	"braid/locator"
	"braid/txn"
	"braid/word"
)

// floor is a scene over some objects, and how many steps have begun.
//
// Over two objects the cells are: 0 and 1 the genesis' status and flag, 2 and 3 the objects'; then each attempt's
// priority, status and flag: 4, 5, 6 the first one's, 7, 8, 9 the second one's, and so on.
type floor struct {
	*testing.T
	s     txn.Scene
	steps int
}

// lay makes a floor over the objects 7 and 8.
func lay(t *testing.T, kind, patience int, draws ...int64) *floor {
	t.Helper()
	return layOver(t, kind, patience, fixture.Numbers(7, 8), draws)
}

func layOver(t *testing.T, kind, patience int, values []api.Value, draws []int64) *floor {
	t.Helper()
	m := cell.New()
	w, e := locator.New(m, values)
	c, f := cm.New(kind, patience)
	if e != api.OK || f != api.OK {
		t.Fatalf("New = %d, %d", e, f)
	}
	return &floor{T: t, s: txn.Scene{Memory: m, World: w, Manager: c, Draws: word.NewDraws(draws)}}
}

// attempt makes one of a thread; its stamp is the thread's number.
func (f *floor) attempt(thread int) *txn.Attempt {
	f.Helper()
	return f.ranked(thread, 0)
}

func (f *floor) ranked(thread int, rank int64) *txn.Attempt {
	f.Helper()
	c, e := f.s.Memory.Make(rank)
	f.ok(e)
	a, e := txn.New(f.s, api.Owner{Thread: thread, Stamp: int64(thread), Priority: c}, rank)
	if a == nil || e != api.OK {
		f.Fatalf("New = %v, %d", a, e)
	}
	return a
}

func (f *floor) ok(e api.Errno) {
	f.Helper()
	if e != api.OK {
		f.Fatalf("answers %d", e)
	}
}

func (f *floor) open() {
	f.Helper()
	f.ok(f.s.Memory.Begin(f.steps, 0))
	f.steps++
}

// killed has somebody else turn an attempt's status.
func (f *floor) killed(a *txn.Attempt) {
	f.Helper()
	f.open()
	if done, e := f.s.World.Kill(a.Number()); !done || e != api.OK {
		f.Fatalf("Kill = %v, %d", done, e)
	}
}

// sight is all that can be seen of an attempt and of the world around it, but for the locators.
type sight struct {
	number, state, reads int
	rank                 int64
	owns                 string
	cells, rows          int
	taken, left          int
	committed            string
}

func (f *floor) sight(a *txn.Attempt) sight {
	owns := ""
	for o := -1; o <= f.s.World.Objects(); o++ {
		owns += fmt.Sprint(" ", a.Owns(o))
	}
	return sight{
		number: a.Number(), state: a.State(), reads: a.Reads(), rank: a.Rank(), owns: owns,
		cells: f.s.Memory.Size(), rows: len(f.s.Memory.Log()),
		taken: f.s.Draws.Taken(), left: f.s.Draws.Left(),
		committed: fmt.Sprint(f.s.World.Committed()),
	}
}

// locators tells how many there are.
func (f *floor) locators() int {
	n := 0
	for {
		if _, e := f.s.World.Locator(n); e != api.OK {
			return n
		}
		n++
	}
}

// idle looks that a row has nothing in the fields that the layers above fill, or that its text leaves out.
func idle(r api.Row) bool {
	return r.Step == 0 && r.Try == 0 && r.Job == -1 && !r.Puts && r.Put == api.Value{} && (r.Told || r.Value == api.Value{})
}

// does takes a step for each line, and looks that its row is that line.
func (f *floor) does(a *txn.Attempt, thread int, lines ...string) {
	f.Helper()
	for i, line := range lines {
		f.unopened(a, line)
		if hasAccess(line) {
			f.open()
		}
		before := f.sight(a)
		r, e := a.Step()
		if e != api.OK || fixture.Row(r) != line {
			f.Fatalf("line %d: %q, %d, want %q", i, fixture.Row(r), e, line)
		}
		if !idle(r) || r.Thread != thread || r.Attempt != a.Number() {
			f.Fatalf("line %d: %+v", i, r)
		}
		f.grain(before, f.sight(a), r)
	}
}

// hasAccess tells whether a line tells of an access.
func hasAccess(line string) bool { return strings.Contains(line, "@") }

// grain looks that a step took the accesses and the draws that its row tells, and made no cell.
func (f *floor) grain(before, after sight, r api.Row) {
	f.Helper()
	rows, taken := 0, 0
	if r.Cell != -1 {
		rows = 1
		t := f.s.Memory.Took()
		if t.Cell != r.Cell || t.Seen != r.Seen || t.Wrote != r.Wrote || t.Done != r.Done {
			f.Fatalf("%+v, the access is %+v", r, t)
		}
	}
	if r.Kind == api.RowLook && before.left > 0 {
		taken = 1
	}
	if after.rows != before.rows+rows || after.taken != before.taken+taken || after.cells != before.cells {
		f.Fatalf("%q: from %+v to %+v", fixture.Row(r), before, after)
	}
}

// unopened steps, and steps again, where no step of the memory is open: nothing changes but the locators.
func (f *floor) unopened(a *txn.Attempt, line string) {
	f.Helper()
	if !hasAccess(line) {
		return
	}
	before := f.sight(a)
	made := f.locators()
	if strings.Contains(line, "acquire") {
		made++
	}
	for range 2 {
		if r, e := a.Step(); r != (api.Row{}) || e != api.ErrClosed {
			f.Fatalf("Step without an open step = %+v, %d, ahead of %q", r, e, line)
		}
		if f.locators() > made {
			f.Fatalf("%d locators, want %d", f.locators(), made)
		}
	}
	if after := f.sight(a); after != before {
		f.Fatalf("from %+v to %+v", before, after)
	}
}

// state looks what an attempt tells of itself.
func (f *floor) state(a *txn.Attempt, state, reads int, owns ...int) {
	f.Helper()
	if a.State() != state || a.Reads() != reads {
		f.Fatalf("state %d with %d reads, want %d, %d", a.State(), a.Reads(), state, reads)
	}
	for o := -2; o < f.s.World.Objects()+2; o++ {
		want := false
		for _, own := range owns {
			want = want || own == o
		}
		if a.Owns(o) != want {
			f.Fatalf("Owns(%d) = %v", o, !want)
		}
	}
}

func (f *floor) committed(nums ...int64) {
	f.Helper()
	if got, want := fmt.Sprint(f.s.World.Committed()), fmt.Sprint(fixture.Numbers(nums...)); got != want {
		f.Fatalf("committed %v, want %v", got, want)
	}
}
