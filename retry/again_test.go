package retry_test

import (
	"math"
	"testing"

	"braid/api"
	"braid/fixture"
	"braid/retry"
)

// A stale attempt, and the one behind it: an empty table, no object of its own, new cells, ordinals from 0 on.
func TestStale(t *testing.T) {
	f := lay(t, api.Polite, 5)
	x := f.begun(3, 6)
	me := whose{3, 6, 1, 1}
	f.ok(x.Read(0))
	f.does(x, me, "read point 0;-1;-1 @3 0>0", "read status 0;-1;0 @1 2>2", "read mine 0;0;-1 @6 1>1 tells 7")
	f.ok(x.Write(1))
	f.does(x, me, "write point 1;-1;-1 @4 1>1", "write status 1;-1;0 @1 2>2", "write acquire 1;-1;-1 @4 1>2",
		"write point 0;0;-1 @3 0>0", "write status 0;0;0 @1 2>2", "write mine 1;-1;-1 @6 1>1 tells 8")
	f.ok(x.Put(1, api.Value{Num: 80}))
	f.overtaken(0, 70)
	f.ok(x.Finish())
	f.does(x, me, "final point 0;0;-1 @3 3>3", "final status 0;0;2 @9 2>2")
	f.tells(x, sight{state: api.StateBusy, tries: 1, number: 1, thread: 3, job: 6, reads: 1, owns: "1"})
	f.does(x, me, "final quit -1;-1;-1 @6 1>3 end stale")
	f.tells(x, sight{state: api.StateFresh, tries: 1, number: 1, thread: 3, job: 6, reads: 1, owns: "1"})
	me = whose{3, 6, 2, 3}
	f.does(x, me, "none again -1;-1;-1")
	f.tells(x, sight{state: api.StateOpen, tries: 2, number: 3, thread: 3, job: 6})
	f.owner(x, api.Owner{Thread: 3, Stamp: 0, Priority: 5}, 11, 12)
	if x.Put(1, api.Value{}) != api.ErrNotOwn {
		t.Error("what the attempt before owned may be put into")
	}
	if n, e := x.Release(0); n != -1 || e != api.OK {
		t.Errorf("Release(0) = %d, %d", n, e)
	}
	f.ok(x.Read(0))
	f.does(x, me, "read point 0;-1;-1 @3 3>3", "read status 0;-1;2 @9 2>2", "read mine 0;0;-1 @11 1>1 tells 70")
	// the locator of its own older attempt is one of an attempt that is Aborted
	f.ok(x.Write(1))
	f.does(x, me, "write point 1;-1;-1 @4 2>2", "write status 1;-1;1 @6 3>3", "write acquire 1;-1;-1 @4 2>4",
		"write point 0;0;-1 @3 3>3", "write status 0;0;2 @9 2>2", "write mine 1;-1;-1 @11 1>1 tells 8")
	f.ok(x.Put(1, api.Value{Num: 81}))
	f.ok(x.Finish())
	f.does(x, me, "final point 0;0;-1 @3 3>3", "final status 0;0;2 @9 2>2", "final commit -1;-1;-1 @11 1>2 end commit")
	f.tells(x, sight{state: api.StateOver, outcome: api.EndCommit, tries: 2, number: 3, thread: 3, job: 6, reads: 1, owns: "1"})
	f.committed(70, 81)
}

// A stale attempt that an enemy has killed meanwhile is stale.
func TestStaleAndKilled(t *testing.T) {
	f := lay(t, api.Polite, 5)
	x := f.begun(3, 6)
	f.run(x, x.Read(0))
	f.overtaken(0, 70)
	f.killed(x)
	f.ok(x.Finish())
	f.does(x, whose{3, 6, 1, 1}, "final point 0;0;-1 @3 2>2", "final status 0;0;2 @9 2>2",
		"final quit -1;-1;-1 @6 3>3 lost end stale")
	f.tells(x, sight{state: api.StateFresh, tries: 1, number: 1, thread: 3, job: 6, reads: 1})
}

// A killed attempt finds it out at its next look at the own status, in the midst of an open too.
func TestKilled(t *testing.T) {
	f := lay(t, api.Polite, 5)
	x := f.begun(3, 6)
	f.run(x, x.Write(1))
	f.ok(x.Read(0))
	f.does(x, whose{3, 6, 1, 1}, "read point 0;-1;-1 @3 0>0")
	f.killed(x)
	f.does(x, whose{3, 6, 1, 1}, "read status 0;-1;0 @1 2>2")
	f.tells(x, sight{state: api.StateBusy, tries: 1, number: 1, thread: 3, job: 6, owns: "1"})
	f.does(x, whose{3, 6, 1, 1}, "read mine 0;-1;-1 @6 3>3 end killed")
	f.tells(x, sight{state: api.StateFresh, tries: 1, number: 1, thread: 3, job: 6, owns: "1"})
	f.does(x, whose{3, 6, 2, 2}, "none again -1;-1;-1")
	f.tells(x, sight{state: api.StateOpen, tries: 2, number: 2, thread: 3, job: 6})
	f.owner(x, api.Owner{Thread: 3, Stamp: 0, Priority: 5}, 8, 9)
	f.ok(x.Quit(api.EndBad))
	f.does(x, whose{3, 6, 2, 2}, "quit quit -1;-1;-1 @8 1>3 end bad")
	f.tells(x, sight{state: api.StateOver, outcome: api.EndBad, tries: 2, number: 2, thread: 3, job: 6})
	f.committed(7, 8)
}

// Many attempts: each has the next number, and the stamp and the priority cell of the first; the clock ticks once.
func TestManyTries(t *testing.T) {
	f := layWith(t, api.Greedy, 5, 41, fixture.Numbers(7), nil)
	x := f.begun(1, 2)
	own := api.Owner{Thread: 1, Stamp: 41, Priority: 4}
	for try := 1; try <= 300; try++ {
		f.tells(x, sight{state: api.StateOpen, tries: try, stamp: 41, number: try, thread: 1, job: 2})
		f.owner(x, own, 3+2*try, 4+2*try)
		f.fails(x)
		f.tells(x, sight{state: api.StateFresh, tries: try, stamp: 41, number: try, thread: 1, job: 2})
		f.does(x, whose{1, 2, try + 1, try + 1}, "none again -1;-1;-1")
	}
	if held, _ := f.s.Memory.Peek(0); held != 42 {
		t.Errorf("the clock holds %d", held)
	}
	f.run(x, x.Finish())
	f.tells(x, sight{state: api.StateOver, outcome: api.EndCommit, tries: 301, stamp: 41, number: 301, thread: 1, job: 2})
}

// The k-th that begins has the clock's first number plus k, wrapping round, also where that is -1; whoever was made
// first, and whoever begins again between.
func TestStamps(t *testing.T) {
	for _, first := range []int64{0, 1, 77, -1, -2, -3, math.MaxInt64 - 2, math.MaxInt64, math.MinInt64} {
		f := layWith(t, api.Polite, 5, first, fixture.Numbers(7, 8), nil)
		var made []*retry.Transaction
		for i := range 5 {
			made = append(made, f.fresh(i, i))
		}
		for k, i := range []int{3, 0, 4, 1, 2} {
			x, want := made[i], first+int64(k)
			r := f.step(x)
			if r.Seen != want || r.Wrote != want+1 || !r.Done || r.Cell != 0 || x.Stamp() != want || x.Tries() != 1 || x.Number() != 2*k+1 {
				t.Fatalf("first %d, begin %d: %+v, stamp %d, tries %d, number %d", first, k, r, x.Stamp(), x.Tries(), x.Number())
			}
			if own, _ := f.s.World.Owner(x.Number()); own.Stamp != want {
				t.Fatalf("first %d: owner %+v", first, own)
			}
			f.fails(x)
			f.again(x)
			if own, _ := f.s.World.Owner(x.Number()); own.Stamp != want || x.Stamp() != want || x.Tries() != 2 {
				t.Fatalf("first %d: owner %+v, stamp %d", first, own, x.Stamp())
			}
		}
	}
}

// Two clocks of one scene know nothing of one another; a clock may be made behind the world.
func TestTwoClocks(t *testing.T) {
	f := lay(t, api.Greedy, 8)
	late, e := f.s.Memory.Make(-30)
	f.ok(e)
	x, y, z := f.freshBy(0, 0, 0), f.freshBy(late, 1, 0), f.freshBy(late, 2, 0)
	f.does(y, whose{1, 0, 1, 1}, "none begin -1;-1;-1 @5 -30>-29")
	f.does(x, whose{0, 0, 1, 2}, "none begin -1;-1;-1 @0 0>1")
	f.does(z, whose{2, 0, 1, 3}, "none begin -1;-1;-1 @5 -29>-28")
	if x.Stamp() != 0 || y.Stamp() != -30 || z.Stamp() != -29 {
		t.Errorf("stamps %d, %d, %d", x.Stamp(), y.Stamp(), z.Stamp())
	}
	f.owner(x, api.Owner{Thread: 0, Stamp: 0, Priority: 9}, 10, 11)
	// a stamp is what the manager is shown, whichever clock it is from
	f.run(x, x.Write(0))
	f.ok(y.Write(0))
	f.does(y, whose{1, 0, 1, 1}, "write point 0;-1;-1 @3 2>2", "write status 0;-1;2 @10 1>1",
		"write mine 0;-1;2 @7 1>1", "write look 0;-1;2 @11 0>0 abort")
}

// One that fails stays as old as it was: under Greedy it still aborts whoever began behind it.
func TestStaysOld(t *testing.T) {
	f := lay(t, api.Greedy, 8)
	x, y := f.begun(0, 0), f.begun(1, 0)
	for range 3 {
		f.fails(x)
		f.again(x)
	}
	f.run(y, y.Write(0))
	f.ok(x.Write(0))
	f.does(x, whose{0, 0, 4, 5}, "write point 0;-1;-1 @3 2>2", "write status 0;-1;2 @9 1>1", "write mine 0;-1;2 @15 1>1",
		"write look 0;-1;2 @10 0>0 abort", "write kill 0;-1;2 @9 1>3")
}

// A flag that is up when an attempt ends stays so; the next attempt's own flag is down, and put up anew.
func TestFlagOfItsOwn(t *testing.T) {
	f := lay(t, api.Greedy, 8)
	x, y := f.begun(0, 0), f.begun(1, 4)
	f.run(x, x.Write(0))
	f.ok(y.Read(0))
	f.does(y, whose{1, 4, 1, 2}, "read point 0;-1;-1 @3 2>2", "read status 0;-1;1 @6 1>1", "read mine 0;-1;1 @9 1>1",
		"read look 0;-1;1 @7 0>0 wait 4", "read up 0;-1;1 @10 0>1",
		"read wait 0;-1;1 wait 3", "read wait 0;-1;1 wait 2", "read wait 0;-1;1 wait 1", "read wait 0;-1;1")
	f.killed(y)
	f.does(y, whose{1, 4, 1, 2}, "read point 0;-1;-1 @3 2>2", "read status 0;-1;1 @6 1>1",
		"read mine 0;-1;1 @9 3>3 end killed")
	f.does(y, whose{1, 4, 2, 3}, "none again -1;-1;-1")
	f.owner(y, api.Owner{Thread: 1, Stamp: 1, Priority: 8}, 11, 12)
	f.ok(y.Read(0))
	f.does(y, whose{1, 4, 2, 3}, "read point 0;-1;-1 @3 2>2", "read status 0;-1;1 @6 1>1", "read mine 0;-1;1 @11 1>1",
		"read look 0;-1;1 @7 0>0 wait 4", "read up 0;-1;1 @12 0>1")
	if up, _ := f.s.Memory.Peek(10); up != 1 {
		t.Errorf("the first attempt's flag holds %d", up)
	}
}

// One that fails stays as rich as it was: the rank of its older attempts counts in its own verdicts and in others'.
func TestStaysRich(t *testing.T) {
	for _, kind := range []int{api.Karma, api.Polka} {
		f := lay(t, kind, 100)
		x, y := f.begun(0, 0), f.begun(1, 0)
		f.run(x, x.Read(0))
		f.run(x, x.Read(1))
		f.fails(x)
		f.run(y, y.Write(0))
		f.again(x)
		f.ok(x.Write(0))
		f.does(x, whose{0, 0, 2, 3}, "write point 0;-1;-1 @3 2>2", "write status 0;-1;2 @9 1>1", "write mine 0;-1;2 @11 1>1",
			"write look 0;-1;2 @8 1>1 abort", "write kill 0;-1;2 @9 1>3", "write point 0;-1;-1 @3 2>2",
			"write status 0;-1;2 @9 3>3", "write acquire 0;-1;-1 @3 2>3", "write mine 0;-1;-1 @11 1>1",
			"write boost 0;-1;-1 @5 2>3 tells 7")
		f.run(y, y.Quit(api.EndUser))
		f.again(y)
		f.ok(y.Write(0))
		f.does(y, whose{1, 0, 2, 4}, "write point 0;-1;-1 @3 3>3", "write status 0;-1;3 @11 1>1", "write mine 0;-1;3 @13 1>1",
			"write look 0;-1;3 @5 3>3 wait "+map[int]string{api.Karma: "4", api.Polka: "1"}[kind])
	}
}

// ranks looks at a transaction's rank and at what its priority cell holds.
func (f *floor) ranks(x *retry.Transaction, cell int, want int64) {
	f.Helper()
	if c, held := f.priority(x); x.Rank() != want || c != cell || held != want {
		f.Fatalf("rank %d, the cell %d holds %d, want %d in cell %d", x.Rank(), c, held, want, cell)
	}
}

// Under each manager the rank over many attempts, at each step, until it stays where it is greatest; and the two
// transactions' ranks have nothing to do with one another.
func TestRank(t *testing.T) {
	for kind := range api.Managers {
		f := lay(t, kind, 5)
		x, y := f.begun(0, 0), f.begun(1, 0)
		keeps := kind == api.Karma || kind == api.Polka
		rank := int64(0)
		for try := range 100 {
			for i, ask := range []func(int) api.Errno{x.Read, x.Write, x.Write, x.Read} {
				f.ok(ask([]int{0, 1, 0, 1}[i])) // the third one is an upgrade; the last one opens nothing anew
				for x.State() == api.StateBusy {
					r := f.step(x)
					if r.Kind == api.RowBoost {
						rank++
					}
					if r.Kind == api.RowBoost && (!keeps || !r.Told || r.Cell != 5 || r.Wrote != rank) {
						t.Fatalf("kind %d: %q", kind, fixture.Row(r))
					}
					f.ranks(x, 5, rank)
				}
			}
			if want := min(int64(3*(try+1)), api.MaxRank); keeps && rank != want || !keeps && rank != 0 {
				t.Fatalf("kind %d: rank %d behind %d tries", kind, rank, try+1)
			}
			f.fails(x)
			f.ranks(x, 5, rank)
			f.again(x)
			f.ranks(x, 5, rank)
		}
		f.ranks(y, 8, 0)
		if r := f.run(x, x.Read(0)); keeps && (rank != api.MaxRank || r.Kind != api.RowMine || !r.Told) {
			t.Errorf("kind %d: rank %d, %q", kind, rank, fixture.Row(r))
		}
		f.run(x, x.Finish())
		f.ranks(x, 5, rank)
		if r := f.run(y, y.Read(0)); keeps != (r.Kind == api.RowBoost) || y.Rank() != map[bool]int64{true: 1}[keeps] {
			t.Errorf("kind %d: %q", kind, fixture.Row(r))
		}
	}
}
