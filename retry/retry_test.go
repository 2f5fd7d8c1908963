package retry_test

import (
	"math"
	"testing"

	"braid/api"
	"braid/fixture"
	"braid/retry"
	"braid/txn"
)

func TestExample1(t *testing.T) {
	f := lay(t, api.Polite, 100)
	x := f.fresh(2, 5)
	f.tells(x, sight{state: api.StateFresh, stamp: -1, number: -1, thread: 2, job: 5})
	if x.Read(0) != api.ErrFresh {
		t.Error("Read ahead of the begin")
	}
	f.does(x, whose{2, 5, 1, 1}, "none begin -1;-1;-1 @0 0>1")
	f.tells(x, sight{state: api.StateOpen, tries: 1, stamp: 0, number: 1, thread: 2, job: 5})
	f.owner(x, api.Owner{Thread: 2, Stamp: 0, Priority: 5}, 6, 7)
	if c, held := f.priority(x); c != 5 || held != 0 || f.s.Memory.Size() != 8 {
		t.Errorf("the priority cell %d holds %d, of %d cells", c, held, f.s.Memory.Size())
	}
	f.unmoved(x, func() {
		if r, e := x.Step(); r != (api.Row{}) || e != api.ErrIdle {
			t.Errorf("Step = %+v, %d", r, e)
		}
	})
}

func TestExample2(t *testing.T) {
	f := lay(t, api.Polite, 100)
	x := f.begun(2, 5)
	f.ok(x.Read(0))
	f.tells(x, sight{state: api.StateBusy, tries: 1, number: 1, thread: 2, job: 5})
	f.does(x, whose{2, 5, 1, 1}, "read point 0;-1;-1 @3 0>0", "read status 0;-1;0 @1 2>2")
	f.tells(x, sight{state: api.StateBusy, tries: 1, number: 1, thread: 2, job: 5})
	f.does(x, whose{2, 5, 1, 1}, "read mine 0;0;-1 @6 1>1 tells 7")
	f.tells(x, sight{state: api.StateOpen, tries: 1, number: 1, thread: 2, job: 5, reads: 1})
	f.ok(x.Finish())
	f.does(x, whose{2, 5, 1, 1}, "final point 0;0;-1 @3 0>0", "final status 0;0;0 @1 2>2",
		"final commit -1;-1;-1 @6 1>2 end commit")
	over := sight{state: api.StateOver, outcome: api.EndCommit, tries: 1, number: 1, thread: 2, job: 5, reads: 1}
	f.tells(x, over)
	f.open()
	if r, e := x.Step(); r != (api.Row{}) || e != api.ErrOver || x.Read(0) != api.ErrOver {
		t.Errorf("Step = %+v, %d", r, e)
	}
	f.tells(x, over)
}

// lost is example 3 as far as the kill: two transactions, of which the second one aborts the first one.
func (f *floor) lost() (x, y *retry.Transaction) {
	f.Helper()
	x, y = f.begun(2, 5), f.fresh(1, 0)
	f.does(y, whose{1, 0, 1, 2}, "none begin -1;-1;-1 @0 1>2")
	f.tells(y, sight{state: api.StateOpen, tries: 1, stamp: 1, number: 2, thread: 1})
	f.owner(y, api.Owner{Thread: 1, Stamp: 1, Priority: 8}, 9, 10)
	f.ok(x.Write(0))
	f.does(x, whose{2, 5, 1, 1}, "write point 0;-1;-1 @3 0>0", "write status 0;-1;0 @1 2>2",
		"write acquire 0;-1;-1 @3 0>2", "write mine 0;-1;-1 @6 1>1 tells 7")
	f.ok(y.Write(0))
	for range 8 {
		f.does(y, whose{1, 0, 1, 2}, "write point 0;-1;-1 @3 2>2", "write status 0;-1;1 @6 1>1",
			"write mine 0;-1;1 @9 1>1", "write look 0;-1;1 wait 1", "write wait 0;-1;1")
	}
	f.does(y, whose{1, 0, 1, 2}, "write point 0;-1;-1 @3 2>2", "write status 0;-1;1 @6 1>1",
		"write mine 0;-1;1 @9 1>1", "write look 0;-1;1 abort", "write kill 0;-1;1 @6 1>3")
	return x, y
}

func TestExample3(t *testing.T) {
	f := lay(t, api.Polite, 100)
	x, y := f.lost()
	// nobody has told the first one yet
	f.tells(x, sight{state: api.StateOpen, tries: 1, number: 1, thread: 2, job: 5, owns: "0"})
	f.ok(x.Finish())
	f.does(x, whose{2, 5, 1, 1}, "final commit -1;-1;-1 @6 3>3 lost end killed")
	f.tells(x, sight{state: api.StateFresh, tries: 1, number: 1, thread: 2, job: 5, owns: "0"})
	f.does(x, whose{2, 5, 2, 3}, "none again -1;-1;-1")
	f.tells(x, sight{state: api.StateOpen, tries: 2, number: 3, thread: 2, job: 5})
	f.owner(x, api.Owner{Thread: 2, Stamp: 0, Priority: 5}, 11, 12)
	f.does(y, whose{1, 0, 1, 2}, "write point 0;-1;-1 @3 2>2", "write status 0;-1;1 @6 3>3",
		"write acquire 0;-1;-1 @3 2>3", "write mine 0;-1;-1 @9 1>1 tells 7")
	f.ok(y.Put(0, api.Value{Num: 9}))
	f.ok(y.Finish())
	f.does(y, whose{1, 0, 1, 2}, "final commit -1;-1;-1 @9 1>2 end commit")
	f.ok(x.Read(0))
	f.does(x, whose{2, 5, 2, 3}, "read point 0;-1;-1 @3 3>3", "read status 0;-1;2 @9 2>2",
		"read mine 0;0;-1 @11 1>1 tells 9")
	f.ok(x.Finish())
	f.does(x, whose{2, 5, 2, 3}, "final point 0;0;-1 @3 3>3", "final status 0;0;2 @9 2>2",
		"final commit -1;-1;-1 @11 1>2 end commit")
	f.tells(x, sight{state: api.StateOver, outcome: api.EndCommit, tries: 2, number: 3, thread: 2, job: 5, reads: 1})
	f.committed(9, 8)
}

func TestExample4(t *testing.T) {
	f := lay(t, api.Polite, 100)
	x := f.begun(2, 5)
	f.unmoved(x, func() {
		for _, why := range []int{api.EndStale, api.EndNone, api.EndCommit, api.EndKilled, -1, 6, math.MinInt, math.MaxInt} {
			if e := x.Quit(why); e != api.ErrWhy {
				t.Errorf("Quit(%d) = %d", why, e)
			}
		}
	})
	f.ok(x.Quit(api.EndUser))
	f.does(x, whose{2, 5, 1, 1}, "quit quit -1;-1;-1 @6 1>3 end user")
	f.tells(x, sight{state: api.StateOver, outcome: api.EndUser, tries: 1, number: 1, thread: 2, job: 5})
}

func TestExample5(t *testing.T) {
	f := lay(t, api.Karma, 100)
	x := f.begun(2, 5)
	f.ok(x.Read(0))
	f.does(x, whose{2, 5, 1, 1}, "read point 0;-1;-1 @3 0>0", "read status 0;-1;0 @1 2>2",
		"read mine 0;-1;-1 @6 1>1", "read boost 0;0;-1 @5 0>1 tells 7")
	f.ok(x.Read(1))
	f.does(x, whose{2, 5, 1, 1}, "read point 1;-1;-1 @4 1>1", "read status 1;-1;0 @1 2>2",
		"read point 0;0;-1 @3 0>0", "read status 0;0;0 @1 2>2",
		"read mine 1;-1;-1 @6 1>1", "read boost 1;1;-1 @5 1>2 tells 8")
	f.tells(x, sight{state: api.StateOpen, tries: 1, rank: 2, number: 1, thread: 2, job: 5, reads: 2})
	if c, held := f.priority(x); c != 5 || held != 2 {
		t.Errorf("the priority cell %d holds %d", c, held)
	}
	f.killed(x)
	f.ok(x.Quit(api.EndUser))
	f.does(x, whose{2, 5, 1, 1}, "quit quit -1;-1;-1 @6 3>3 lost end killed")
	f.tells(x, sight{state: api.StateFresh, tries: 1, rank: 2, number: 1, thread: 2, job: 5, reads: 2})
	f.does(x, whose{2, 5, 2, 2}, "none again -1;-1;-1")
	f.tells(x, sight{state: api.StateOpen, tries: 2, rank: 2, number: 2, thread: 2, job: 5})
	f.owner(x, api.Owner{Thread: 2, Stamp: 0, Priority: 5}, 8, 9)
	f.ok(x.Write(1))
	f.does(x, whose{2, 5, 2, 2}, "write point 1;-1;-1 @4 1>1", "write status 1;-1;0 @1 2>2", "write acquire 1;-1;-1 @4 1>2",
		"write mine 1;-1;-1 @8 1>1", "write boost 1;-1;-1 @5 2>3 tells 8")
	f.tells(x, sight{state: api.StateOpen, tries: 2, rank: 3, number: 2, thread: 2, job: 5, owns: "1"})
}

// parts are a scene's four, each of which may be missing.
var parts = []func(s *txn.Scene){
	func(s *txn.Scene) { s.Memory = nil },
	func(s *txn.Scene) { s.World = nil },
	func(s *txn.Scene) { s.Manager = nil },
	func(s *txn.Scene) { s.Draws = nil },
}

// far are numbers of which no world here has an object, and no memory a cell.
var far = []int{math.MinInt, math.MinInt + 1, -1 << 32, -2, -1, 1 << 20, 1 << 32, 1<<32 + 1, math.MaxInt}

func TestExample6(t *testing.T) {
	f := lay(t, api.Karma, 100)
	before := aroundOf(f.s)
	for _, clock := range append(far, f.s.Memory.Size(), f.s.Memory.Size()+1) {
		if x, e := retry.New(f.s, clock, 0, 0); x != nil || e != api.ErrCell {
			t.Errorf("New(%d) = %v, %d", clock, x, e)
		}
		for i, without := range parts {
			s := f.s
			without(&s)
			if x, e := retry.New(s, clock, 0, 0); x != nil || e != api.ErrRoom {
				t.Errorf("New(%d) without part %d = %v, %d", clock, i, x, e)
			}
		}
	}
	for i, without := range parts {
		s := f.s
		without(&s)
		if x, e := retry.New(s, 0, 0, 0); x != nil || e != api.ErrRoom {
			t.Errorf("New without part %d = %v, %d", i, x, e)
		}
	}
	if x, e := retry.New(txn.Scene{}, 0, 0, 0); x != nil || e != api.ErrRoom {
		t.Errorf("New without a scene = %v, %d", x, e)
	}
	if now := aroundOf(f.s); now != before {
		t.Errorf("from %+v to %+v", before, now)
	}
}

// Nothing shared knows of a transaction that has not begun, whatever its numbers; they stand in its rows.
func TestNew(t *testing.T) {
	wide := append(far, 0, 1, 7)
	f := lay(t, api.Greedy, 5)
	for i, thread := range wide {
		job := wide[len(wide)-1-i]
		before := aroundOf(f.s)
		clock, e := f.s.Memory.Make(-5) // the last cell that there is
		f.ok(e)
		x := f.freshBy(clock, thread, job)
		before.cells++
		if now := aroundOf(f.s); now != before {
			t.Fatalf("from %+v to %+v", before, now)
		}
		f.tells(x, sight{state: api.StateFresh, stamp: -1, number: -1, thread: thread, job: job})
		if _, e := f.s.World.Owner(i + 1); e != api.ErrAttempt {
			t.Fatal("New makes an attempt")
		}
		who := whose{thread, job, 1, i + 1}
		r := f.step(x)
		want := api.Row{Thread: thread, Job: job, Try: 1, Attempt: i + 1, Kind: api.RowBegin, Phase: api.PhaseNone,
			Object: -1, Entry: -1, Enemy: -1, Cell: clock, Seen: -5, Wrote: -4, Done: true}
		if r != want {
			t.Fatalf("%+v, want %+v", r, want)
		}
		f.tells(x, sight{state: api.StateOpen, tries: 1, stamp: -5, number: i + 1, thread: thread, job: job})
		f.owner(x, api.Owner{Thread: thread, Stamp: -5, Priority: clock + 1}, clock+2, clock+3)
		f.ok(x.Quit(api.EndBad))
		if r := f.step(x); whoseOf(r) != who || r.End != api.EndBad {
			t.Fatalf("%+v, want %+v", r, who)
		}
	}
}

// A transaction that is none is over, and says so to every call.
func TestNone(t *testing.T) {
	for _, x := range []*retry.Transaction{nil, {}, new(retry.Transaction)} {
		want := sight{state: api.StateOver, stamp: -1, number: -1, thread: -1, job: -1}
		for range 2 {
			if got := sightOf(x, 3); got != want {
				t.Errorf("tells %+v, want %+v", got, want)
			}
			for _, o := range append(far, 0, 1) {
				n, e := x.Release(o)
				if x.Read(o) != api.ErrOver || x.Write(o) != api.ErrOver || x.Put(o, api.Value{}) != api.ErrOver || n != 0 || e != api.ErrOver {
					t.Errorf("object %d: Release = %d, %d", o, n, e)
				}
				if x.Owns(o) {
					t.Errorf("Owns(%d)", o)
				}
				if x.Quit(o) != api.ErrOver {
					t.Errorf("Quit(%d)", o)
				}
			}
			if x.Finish() != api.ErrOver || x.Quit(api.EndUser) != api.ErrOver || x.Quit(api.EndBad) != api.ErrOver {
				t.Error("Finish, Quit")
			}
			if r, e := x.Step(); r != (api.Row{}) || e != api.ErrOver {
				t.Errorf("Step = %+v, %d", r, e)
			}
		}
	}
}

// The first step of a transaction that the memory refuses: no step has begun at all, or the open one has had its access.
func TestRefusedBegin(t *testing.T) {
	f := lay(t, api.Karma, 5)
	x, y := f.fresh(0, 0), f.fresh(1, 1)
	f.refused(x)
	f.refused(x)
	f.open()
	_, e := f.s.Memory.Load(3)
	f.ok(e)
	f.refused(x)
	f.does(y, whose{1, 1, 1, 1}, "none begin -1;-1;-1 @0 0>1")
	f.refused(x)
	f.does(x, whose{0, 0, 1, 2}, "none begin -1;-1;-1 @0 1>2")
	f.tells(x, sight{state: api.StateOpen, tries: 1, stamp: 1, number: 2})
	f.owner(x, api.Owner{Thread: 0, Stamp: 1, Priority: 8}, 9, 10)
}

// RowAgain takes no access: it needs no open step, and leaves an open one its access.
func TestAgainTakesNoAccess(t *testing.T) {
	f := lay(t, api.Polite, 5)
	x := f.begun(0, 3)
	f.fails(x)
	f.does(x, whose{0, 3, 2, 2}, "none again -1;-1;-1")
	f.fails(x)
	f.open()
	rows := len(f.s.Memory.Log())
	r, e := x.Step()
	if e != api.OK || fixture.Row(r) != "none again -1;-1;-1" || whoseOf(r) != (whose{0, 3, 3, 3}) || !idle(r) {
		t.Fatalf("%+v, %d", r, e)
	}
	if f.s.Memory.Took() != (api.Access{}) || len(f.s.Memory.Log()) != rows {
		t.Errorf("took %+v", f.s.Memory.Took())
	}
	// the access is still free
	f.ok(x.Quit(api.EndUser))
	if r, e := x.Step(); e != api.OK || fixture.Row(r) != "quit quit -1;-1;-1 @10 1>3 end user" {
		t.Fatalf("%q, %d", fixture.Row(r), e)
	}
}

// Where a step of an operation takes no access, none needs to be open either, and the row has the job and the try.
func TestLocal(t *testing.T) {
	f := lay(t, api.Polite, 5)
	x := f.begun(4, 2)
	f.run(x, x.Read(1))
	f.ok(x.Read(1))
	f.does(x, whose{4, 2, 1, 1}, "read local 1;0;-1 tells 8")
	f.tells(x, sight{state: api.StateOpen, tries: 1, number: 1, thread: 4, job: 2, reads: 1})
}
