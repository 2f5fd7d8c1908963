package retry_test

import (
	"testing"

	"braid/api"
	"braid/retry"
)

// fill makes cells until there is room for so many more.
func (f *floor) fill(room int) {
	f.Helper()
	for f.s.Memory.Size() < api.MaxCells-room {
		_, e := f.s.Memory.Make(0)
		f.ok(e)
	}
}

// answers asks a transaction for all that there is: each call ends, and what Step answers besides an error is nothing.
func (f *floor) answers(x *retry.Transaction) {
	f.Helper()
	for range 3 {
		f.open()
		if r, e := x.Step(); e == api.OK || r != (api.Row{}) {
			f.Errorf("Step = %+v, %d", r, e)
		}
		sightOf(x, 2)
		for _, c := range calls() {
			c.do(x)
		}
	}
}

// Where there is no room for the cells that a step has to make, or for the attempt, Step ends. What it leaves is free.
func TestNoRoomToBegin(t *testing.T) {
	for room := range 3 {
		f := lay(t, api.Karma, 5)
		f.fill(room)
		f.answers(f.fresh(0, 0))
	}
	f := lay(t, api.Karma, 5)
	f.fill(3)
	f.begun(0, 0)
	f.answers(f.fresh(1, 0))
}

func TestNoRoomToBeginAgain(t *testing.T) {
	for room := range 2 {
		f := lay(t, api.Karma, 5)
		x := f.begun(0, 0)
		f.fails(x)
		f.fill(room)
		f.answers(x)
	}
	f := lay(t, api.Karma, 5)
	x := f.begun(0, 0)
	f.fails(x)
	f.fill(2)
	f.again(x)
}

func TestNoRoomForAnAttempt(t *testing.T) {
	f := lay(t, api.Polite, 5)
	x, y := f.begun(0, 0), f.fresh(1, 0)
	f.fails(x)
	for {
		if _, e := f.s.World.Attempt(api.Owner{}); e != api.OK {
			break
		}
	}
	f.answers(x)
	f.answers(y)
}
