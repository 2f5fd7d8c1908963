package txn_test

import (
	"fmt"
	"math"
	"testing"

	"braid/api"
	"braid/cell"
	"braid/cm"
	"braid/fixture"
	"braid/locator"
	"braid/txn"
)

// far are numbers of which no world here has an object, and no memory a cell.
var far = []int{math.MinInt, math.MinInt + 1, -1 << 32, -2, -1, 1 << 20, 1 << 32, 1<<32 + 1, math.MaxInt}

func TestExample1(t *testing.T) {
	f := lay(t, api.Polite, 100)
	a := f.attempt(4)
	if a.Number() != 1 || a.Rank() != 0 {
		t.Fatalf("number %d, rank %d", a.Number(), a.Rank())
	}
	f.state(a, api.StateOpen, 0)
	f.ok(a.Read(0))
	f.state(a, api.StateBusy, 0)
	f.does(a, 4, "read point 0;-1;-1 @2 0>0", "read status 0;-1;0 @0 2>2")
	f.state(a, api.StateBusy, 0)
	f.does(a, 4, "read mine 0;0;-1 @5 1>1 tells 7")
	f.state(a, api.StateOpen, 1)
	f.ok(a.Read(0))
	f.state(a, api.StateBusy, 1)
	f.does(a, 4, "read local 0;0;-1 tells 7")
	f.state(a, api.StateOpen, 1)
	f.ok(a.Finish())
	f.does(a, 4, "final point 0;0;-1 @2 0>0", "final status 0;0;0 @0 2>2")
	f.state(a, api.StateBusy, 1)
	f.does(a, 4, "final commit -1;-1;-1 @5 1>2 end commit")
	f.state(a, api.StateOver, 1)
	f.committed(7, 8)
}

// takes lets an attempt acquire an object with an empty table.
func (f *floor) takes(a *txn.Attempt, thread, object int, lines ...string) {
	f.Helper()
	f.ok(a.Write(object))
	f.does(a, thread, lines...)
}

func TestExample2(t *testing.T) {
	f := lay(t, api.Polite, 100)
	a := f.attempt(0)
	f.takes(a, 0, 0, "write point 0;-1;-1 @2 0>0", "write status 0;-1;0 @0 2>2", "write acquire 0;-1;-1 @2 0>2")
	f.state(a, api.StateBusy, 0, 0)
	f.does(a, 0, "write mine 0;-1;-1 @5 1>1 tells 7")
	f.state(a, api.StateOpen, 0, 0)
	f.ok(a.Put(0, api.Value{Num: 9}))
	f.ok(a.Read(0))
	f.does(a, 0, "read local 0;-1;-1 tells 9")
	f.state(a, api.StateOpen, 0, 0)
	f.ok(a.Write(0))
	f.does(a, 0, "write local 0;-1;-1 tells 9")
	b := f.attempt(1)
	f.ok(b.Read(0))
	for range 8 {
		f.does(b, 1, "read point 0;-1;-1 @2 2>2", "read status 0;-1;1 @5 1>1",
			"read mine 0;-1;1 @8 1>1", "read look 0;-1;1 wait 1", "read wait 0;-1;1")
	}
	f.does(b, 1, "read point 0;-1;-1 @2 2>2", "read status 0;-1;1 @5 1>1",
		"read mine 0;-1;1 @8 1>1", "read look 0;-1;1 abort", "read kill 0;-1;1 @5 1>3",
		"read point 0;-1;-1 @2 2>2", "read status 0;-1;1 @5 3>3", "read mine 0;0;-1 @8 1>1 tells 7")
	f.state(b, api.StateOpen, 1)
	f.ok(a.Finish())
	f.does(a, 0, "final commit -1;-1;-1 @5 3>3 lost end killed")
	f.state(a, api.StateOver, 0, 0)
	f.committed(7, 8)
}

// skew leaves two attempts each of which has read what the other one has acquired.
func (f *floor) skew() (a, b *txn.Attempt) {
	f.Helper()
	a, b = f.attempt(0), f.attempt(1)
	f.ok(a.Read(0))
	f.does(a, 0, "read point 0;-1;-1 @2 0>0", "read status 0;-1;0 @0 2>2", "read mine 0;0;-1 @5 1>1 tells 7")
	f.ok(b.Read(1))
	f.does(b, 1, "read point 1;-1;-1 @3 1>1", "read status 1;-1;0 @0 2>2", "read mine 1;0;-1 @8 1>1 tells 8")
	f.ok(a.Write(1))
	f.does(a, 0, "write point 1;-1;-1 @3 1>1", "write status 1;-1;0 @0 2>2", "write acquire 1;-1;-1 @3 1>2",
		"write point 0;0;-1 @2 0>0", "write status 0;0;0 @0 2>2", "write mine 1;-1;-1 @5 1>1 tells 8")
	f.ok(b.Write(0))
	f.does(b, 1, "write point 0;-1;-1 @2 0>0", "write status 0;-1;0 @0 2>2", "write acquire 0;-1;-1 @2 0>3",
		"write point 1;0;-1 @3 2>2", "write status 1;0;1 @5 1>1", "write mine 0;-1;-1 @8 1>1 tells 7")
	f.state(a, api.StateOpen, 1, 1)
	f.state(b, api.StateOpen, 1, 0)
	return a, b
}

func TestExample3(t *testing.T) {
	f := lay(t, api.Polite, 2)
	a, b := f.skew()
	f.ok(a.Put(1, api.Value{Num: 20}))
	f.ok(a.Finish())
	f.does(a, 0, "final point 0;0;-1 @2 3>3", "final status 0;0;2 @8 1>1", "final mine 0;0;2 @5 1>1",
		"final look 0;0;2 wait 1", "final wait 0;0;2",
		"final point 0;0;-1 @2 3>3", "final status 0;0;2 @8 1>1", "final mine 0;0;2 @5 1>1",
		"final look 0;0;2 wait 1", "final wait 0;0;2",
		"final point 0;0;-1 @2 3>3", "final status 0;0;2 @8 1>1", "final mine 0;0;2 @5 1>1",
		"final look 0;0;2 abort timeout", "final kill 0;0;2 @8 1>3",
		"final point 0;0;-1 @2 3>3", "final status 0;0;2 @8 3>3", "final commit -1;-1;-1 @5 1>2 end commit")
	f.committed(7, 20)
	f.ok(b.Finish())
	f.does(b, 1, "final point 1;0;-1 @3 2>2", "final status 1;0;1 @5 2>2", "final quit -1;-1;-1 @8 3>3 lost end stale")
	f.committed(7, 20)
}

func TestExample3TheOtherWay(t *testing.T) {
	f := lay(t, api.Polite, 1)
	a, b := f.skew()
	f.ok(b.Put(0, api.Value{Num: 20}))
	f.ok(b.Finish())
	f.does(b, 1, "final point 1;0;-1 @3 2>2", "final status 1;0;1 @5 1>1", "final mine 1;0;1 @8 1>1",
		"final look 1;0;1 wait 1")
	f.ok(a.Quit(api.EndBad))
	f.does(a, 0, "quit quit -1;-1;-1 @5 1>3 end bad")
	f.does(b, 1, "final wait 1;0;1", "final point 1;0;-1 @3 2>2", "final status 1;0;1 @5 3>3",
		"final commit -1;-1;-1 @8 1>2 end commit")
	f.committed(20, 8)
}

func TestExample4(t *testing.T) {
	f := lay(t, api.Polite, 5)
	a, b := f.attempt(0), f.attempt(1)
	f.ok(a.Read(0))
	f.does(a, 0, "read point 0;-1;-1 @2 0>0", "read status 0;-1;0 @0 2>2", "read mine 0;0;-1 @5 1>1 tells 7")
	f.takes(b, 1, 0, "write point 0;-1;-1 @2 0>0", "write status 0;-1;0 @0 2>2", "write acquire 0;-1;-1 @2 0>2",
		"write mine 0;-1;-1 @8 1>1 tells 7")
	f.ok(b.Put(0, api.Value{Num: 9}))
	f.ok(b.Finish())
	f.does(b, 1, "final commit -1;-1;-1 @8 1>2 end commit")
	f.committed(9, 8)
	f.ok(a.Write(0))
	f.does(a, 0, "write point 0;-1;-1 @2 2>2", "write status 0;-1;2 @8 2>2")
	f.state(a, api.StateBusy, 1)
	f.does(a, 0, "write quit -1;-1;-1 @5 1>3 end stale")
	f.state(a, api.StateOver, 1)
	f.committed(9, 8)
}

func (f *floor) releases(a *txn.Attempt, object, want int, wantE api.Errno) {
	f.Helper()
	if n, e := a.Release(object); n != want || e != wantE {
		f.Fatalf("Release(%d) = %d, %d, want %d, %d", object, n, e, want, wantE)
	}
}

func TestExample5(t *testing.T) {
	f := lay(t, api.Polite, 5)
	a := f.attempt(0)
	f.ok(a.Read(0))
	f.does(a, 0, "read point 0;-1;-1 @2 0>0", "read status 0;-1;0 @0 2>2", "read mine 0;0;-1 @5 1>1 tells 7")
	f.releases(a, 0, 0, api.OK)
	f.state(a, api.StateOpen, 0)
	f.releases(a, 0, -1, api.OK)
	f.releases(a, 1, -1, api.OK)
	f.ok(a.Finish())
	f.does(a, 0, "final commit -1;-1;-1 @5 1>2 end commit")
}

func TestExample6(t *testing.T) {
	f := lay(t, api.Polite, 5)
	a, b, c := f.attempt(0), f.attempt(1), f.attempt(2)
	if _, e := a.Step(); e != api.ErrIdle {
		t.Errorf("Step = %d", e)
	}
	if a.Quit(api.EndCommit) != api.ErrWhy || a.Read(5) != api.ErrObject || a.Put(1, api.Value{}) != api.ErrNotOwn {
		t.Error("refusals")
	}
	f.ok(a.Read(1))
	if a.Read(0) != api.ErrBusy {
		t.Error("an operation is under way")
	}
	f.ok(b.Quit(api.EndUser))
	f.does(b, 1, "quit quit -1;-1;-1 @8 1>3 end user")
	if _, e := b.Step(); e != api.ErrOver {
		t.Errorf("Step = %d", e)
	}
	f.killed(c)
	f.ok(c.Quit(api.EndUser))
	f.does(c, 2, "quit quit -1;-1;-1 @11 3>3 lost end killed")
	f.state(c, api.StateOver, 0)
}

// A quit of either reason, in the empty and in a full attempt, leaves nothing of it.
func TestQuit(t *testing.T) {
	for _, why := range []int{api.EndUser, api.EndBad} {
		f := lay(t, api.Polite, 5)
		a := f.attempt(0)
		f.takes(a, 0, 0, "write point 0;-1;-1 @2 0>0", "write status 0;-1;0 @0 2>2", "write acquire 0;-1;-1 @2 0>2",
			"write mine 0;-1;-1 @5 1>1 tells 7")
		f.ok(a.Put(0, api.Value{Num: 1}))
		f.ok(a.Quit(why))
		f.state(a, api.StateBusy, 0, 0)
		f.does(a, 0, "quit quit -1;-1;-1 @5 1>3 end "+fixture.End(why))
		f.state(a, api.StateOver, 0, 0)
		f.committed(7, 8)
	}
}

// An own object tells its own version's value, whatever fields it has, also where the attempt has been killed.
func TestOwnValue(t *testing.T) {
	f := layOver(t, api.Polite, 5, []api.Value{{Num: -3, Next: 4, Dead: true}}, nil)
	a := f.attempt(0)
	tells := func(want api.Value, begin func(int) api.Errno, steps int) {
		t.Helper()
		f.ok(begin(0))
		for i := range steps {
			f.open()
			r, e := a.Step()
			if last := i == steps-1; e != api.OK || r.Told != last || last && r.Value != want || !last && r.Value != (api.Value{}) {
				t.Fatalf("step %d: %+v, %d, want %v", i, r, e, want)
			}
		}
	}
	tells(api.Value{Num: -3, Next: 4, Dead: true}, a.Read, 3)
	tells(api.Value{Num: -3, Next: 4, Dead: true}, a.Read, 1)
	tells(api.Value{Num: -3, Next: 4, Dead: true}, a.Write, 4)
	tells(api.Value{Num: -3, Next: 4, Dead: true}, a.Write, 1)
	f.ok(a.Put(0, api.Value{Num: 5, Next: -1}))
	f.ok(a.Put(0, api.Value{Num: 6, Next: -1}))
	tells(api.Value{Num: 6, Next: -1}, a.Read, 1)
	f.killed(a)
	tells(api.Value{Num: 6, Next: -1}, a.Write, 1)
	f.ok(a.Put(0, api.Value{Num: 7}))
	tells(api.Value{Num: 7}, a.Read, 1)
	if got := f.s.World.Committed()[0]; got != (api.Value{Num: -3, Next: 4, Dead: true}) {
		t.Errorf("committed %v", got)
	}
}

// A step without an access leaves the memory's open step its access.
func TestLocalTakesNoAccess(t *testing.T) {
	f := lay(t, api.Polite, 5)
	a := f.attempt(0)
	f.ok(a.Read(0))
	f.does(a, 0, "read point 0;-1;-1 @2 0>0", "read status 0;-1;0 @0 2>2", "read mine 0;0;-1 @5 1>1 tells 7")
	f.ok(a.Read(0))
	f.open()
	if r, e := a.Step(); e != api.OK || fixture.Row(r) != "read local 0;0;-1 tells 7" {
		t.Fatalf("%q, %d", fixture.Row(r), e)
	}
	if f.s.Memory.Took() != (api.Access{}) {
		t.Errorf("took %v", f.s.Memory.Took())
	}
	// and where the open step has had an access of somebody else's, that one is not told
	_, e := f.s.Memory.Load(3)
	f.ok(e)
	f.ok(a.Read(0))
	f.does(a, 0, "read local 0;0;-1 tells 7")
}

// One access a step: where the open step has had its access, the next one is refused.
func TestSecondAccess(t *testing.T) {
	f := lay(t, api.Polite, 5)
	a := f.attempt(0)
	f.ok(a.Read(0))
	f.open()
	if r, e := a.Step(); e != api.OK || fixture.Row(r) != "read point 0;-1;-1 @2 0>0" {
		t.Fatalf("%q, %d", fixture.Row(r), e)
	}
	if r, e := a.Step(); e != api.ErrClosed || r != (api.Row{}) {
		t.Fatalf("%q, %d", fixture.Row(r), e)
	}
	f.does(a, 0, "read status 0;-1;0 @0 2>2", "read mine 0;0;-1 @5 1>1 tells 7")
}

func TestUpgrade(t *testing.T) {
	f := lay(t, api.Polite, 5)
	a := f.attempt(0)
	f.ok(a.Read(0))
	f.does(a, 0, "read point 0;-1;-1 @2 0>0", "read status 0;-1;0 @0 2>2", "read mine 0;0;-1 @5 1>1 tells 7")
	f.ok(a.Read(1))
	f.does(a, 0, "read point 1;-1;-1 @3 1>1", "read status 1;-1;0 @0 2>2",
		"read point 0;0;-1 @2 0>0", "read status 0;0;0 @0 2>2", "read mine 1;1;-1 @5 1>1 tells 8")
	f.ok(a.Write(1))
	f.does(a, 0, "write point 1;-1;-1 @3 1>1", "write status 1;-1;0 @0 2>2")
	f.state(a, api.StateBusy, 2)
	f.does(a, 0, "write acquire 1;-1;-1 @3 1>2")
	f.state(a, api.StateBusy, 1, 1)
	f.does(a, 0, "write point 0;0;-1 @2 0>0", "write status 0;0;0 @0 2>2", "write mine 1;1;-1 @5 1>1 tells 8")
	f.state(a, api.StateOpen, 1, 1)
	// in a later operation the object has no entry any more
	f.ok(a.Write(1))
	f.does(a, 0, "write local 1;-1;-1 tells 8")
	f.ok(a.Read(1))
	f.does(a, 0, "read local 1;-1;-1 tells 8")
	f.releases(a, 1, -1, api.OK)
	f.ok(a.Write(0))
	f.does(a, 0, "write point 0;-1;-1 @2 0>0", "write status 0;-1;0 @0 2>2", "write acquire 0;-1;-1 @2 0>3",
		"write mine 0;0;-1 @5 1>1 tells 7")
	f.state(a, api.StateOpen, 0, 0, 1)
	f.ok(a.Put(1, api.Value{Num: 80}))
	f.ok(a.Put(0, api.Value{Num: 70}))
	f.committed(7, 8)
	f.ok(a.Finish())
	f.does(a, 0, "final commit -1;-1;-1 @5 1>2 end commit")
	f.committed(70, 80)
}

// A second reading behind a release has a new ordinal, a new look, and a place at the table's end.
func TestReleaseAndSecondReading(t *testing.T) {
	f := lay(t, api.Polite, 5)
	a := f.attempt(0)
	f.ok(a.Read(0))
	f.does(a, 0, "read point 0;-1;-1 @2 0>0", "read status 0;-1;0 @0 2>2", "read mine 0;0;-1 @5 1>1 tells 7")
	f.ok(a.Read(1))
	f.does(a, 0, "read point 1;-1;-1 @3 1>1", "read status 1;-1;0 @0 2>2",
		"read point 0;0;-1 @2 0>0", "read status 0;0;0 @0 2>2", "read mine 1;1;-1 @5 1>1 tells 8")
	before := len(f.s.Memory.Log())
	f.releases(a, 0, 0, api.OK)
	if len(f.s.Memory.Log()) != before {
		t.Error("a release takes an access")
	}
	b := f.attempt(1)
	f.takes(b, 1, 0, "write point 0;-1;-1 @2 0>0", "write status 0;-1;0 @0 2>2", "write acquire 0;-1;-1 @2 0>2",
		"write mine 0;-1;-1 @8 1>1 tells 7")
	f.ok(b.Put(0, api.Value{Num: 70}))
	f.ok(b.Finish())
	f.does(b, 1, "final commit -1;-1;-1 @8 1>2 end commit")
	f.ok(a.Read(0))
	f.does(a, 0, "read point 0;-1;-1 @2 2>2", "read status 0;-1;2 @8 2>2",
		"read point 1;1;-1 @3 1>1", "read status 1;1;0 @0 2>2", "read mine 0;2;-1 @5 1>1 tells 70")
	f.state(a, api.StateOpen, 2)
	f.ok(a.Finish())
	f.does(a, 0, "final point 1;1;-1 @3 1>1", "final status 1;1;0 @0 2>2",
		"final point 0;2;-1 @2 2>2", "final status 0;2;2 @8 2>2", "final commit -1;-1;-1 @5 1>2 end commit")
}

// The entry of a committed other's version that is current no longer: found in the validation of a Read, of a Write,
// and in Finish, each at the entry's look.
func TestStaleEntry(t *testing.T) {
	for _, place := range []string{"read", "write", "final"} {
		f := lay(t, api.Polite, 5)
		a, b := f.attempt(0), f.attempt(1)
		f.ok(a.Read(0))
		f.does(a, 0, "read point 0;-1;-1 @2 0>0", "read status 0;-1;0 @0 2>2", "read mine 0;0;-1 @5 1>1 tells 7")
		f.takes(b, 1, 0, "write point 0;-1;-1 @2 0>0", "write status 0;-1;0 @0 2>2", "write acquire 0;-1;-1 @2 0>2",
			"write mine 0;-1;-1 @8 1>1 tells 7")
		f.ok(b.Finish())
		f.does(b, 1, "final commit -1;-1;-1 @8 1>2 end commit")
		switch place {
		case "read":
			f.ok(a.Read(1))
			f.does(a, 0, "read point 1;-1;-1 @3 1>1", "read status 1;-1;0 @0 2>2")
		case "write":
			f.ok(a.Write(1))
			f.does(a, 0, "write point 1;-1;-1 @3 1>1", "write status 1;-1;0 @0 2>2", "write acquire 1;-1;-1 @3 1>3")
		default:
			f.ok(a.Finish())
		}
		f.does(a, 0, place+" point 0;0;-1 @2 2>2", place+" status 0;0;2 @8 2>2")
		f.state(a, api.StateBusy, 1, map[string][]int{"write": {1}}[place]...)
		f.does(a, 0, place+" quit -1;-1;-1 @5 1>3 end stale")
		f.state(a, api.StateOver, 1, map[string][]int{"write": {1}}[place]...)
		// the version is another one, though the number is the same
		f.committed(7, 8)
	}
}

// A lost acquire begins anew with a fresh look and a fresh locator; an entry is held against the new look.
func TestLostAcquire(t *testing.T) {
	f := lay(t, api.Polite, 5)
	a, b := f.attempt(0), f.attempt(1)
	f.takes(a, 0, 0, "write point 0;-1;-1 @2 0>0", "write status 0;-1;0 @0 2>2")
	f.takes(b, 1, 0, "write point 0;-1;-1 @2 0>0", "write status 0;-1;0 @0 2>2", "write acquire 0;-1;-1 @2 0>2",
		"write mine 0;-1;-1 @8 1>1 tells 7")
	f.ok(b.Put(0, api.Value{Num: 9}))
	f.does(a, 0, "write acquire 0;-1;-1 @2 2>2 lost")
	f.state(a, api.StateBusy, 0)
	f.ok(b.Finish())
	f.does(b, 1, "final commit -1;-1;-1 @8 1>2 end commit")
	f.does(a, 0, "write point 0;-1;-1 @2 2>2", "write status 0;-1;2 @8 2>2", "write acquire 0;-1;-1 @2 2>4",
		"write mine 0;-1;-1 @5 1>1 tells 9")
	f.state(a, api.StateOpen, 0, 0)
	if l, e := f.s.World.Locator(4); e != api.OK || l != (api.Locator{Owner: 1, Old: 2, New: 4}) {
		t.Errorf("Locator(4) = %v, %d", l, e)
	}
}

func TestLostAcquireFindsStale(t *testing.T) {
	f := lay(t, api.Polite, 5)
	a, b := f.attempt(0), f.attempt(1)
	f.ok(a.Read(0))
	f.does(a, 0, "read point 0;-1;-1 @2 0>0", "read status 0;-1;0 @0 2>2", "read mine 0;0;-1 @5 1>1 tells 7")
	f.takes(a, 0, 0, "write point 0;-1;-1 @2 0>0", "write status 0;-1;0 @0 2>2")
	f.takes(b, 1, 0, "write point 0;-1;-1 @2 0>0", "write status 0;-1;0 @0 2>2", "write acquire 0;-1;-1 @2 0>2",
		"write mine 0;-1;-1 @8 1>1 tells 7")
	f.ok(b.Finish())
	f.does(b, 1, "final commit -1;-1;-1 @8 1>2 end commit")
	f.does(a, 0, "write acquire 0;-1;-1 @2 2>2 lost", "write point 0;-1;-1 @2 2>2", "write status 0;-1;2 @8 2>2",
		"write quit -1;-1;-1 @5 1>3 end stale")
	f.state(a, api.StateOver, 1)
}

// A lost acquire behind a conflict is without any: tries and waited begin anew.
func TestLostAcquireThenConflict(t *testing.T) {
	f := lay(t, api.Polite, 3, 0, 0, 0, 0)
	a, b, c := f.attempt(0), f.attempt(1), f.attempt(2)
	f.takes(b, 1, 0, "write point 0;-1;-1 @2 0>0", "write status 0;-1;0 @0 2>2", "write acquire 0;-1;-1 @2 0>2",
		"write mine 0;-1;-1 @8 1>1 tells 7")
	f.takes(a, 0, 0, "write point 0;-1;-1 @2 2>2", "write status 0;-1;2 @8 1>1", "write mine 0;-1;2 @5 1>1",
		"write look 0;-1;2 wait 1", "write wait 0;-1;2")
	f.killed(b)
	f.does(a, 0, "write point 0;-1;-1 @2 2>2", "write status 0;-1;2 @8 3>3")
	f.takes(c, 2, 0, "write point 0;-1;-1 @2 2>2", "write status 0;-1;2 @8 3>3", "write acquire 0;-1;-1 @2 2>3",
		"write mine 0;-1;-1 @11 1>1 tells 7")
	f.does(a, 0, "write acquire 0;-1;-1 @2 3>3 lost", "write point 0;-1;-1 @2 3>3", "write status 0;-1;3 @11 1>1")
	for range 3 {
		f.does(a, 0, "write mine 0;-1;3 @5 1>1", "write look 0;-1;3 wait 1", "write wait 0;-1;3",
			"write point 0;-1;-1 @2 3>3", "write status 0;-1;3 @11 1>1")
	}
	f.does(a, 0, "write mine 0;-1;3 @5 1>1", "write look 0;-1;3 abort timeout", "write kill 0;-1;3 @11 1>3",
		"write point 0;-1;-1 @2 3>3", "write status 0;-1;3 @11 3>3", "write acquire 0;-1;-1 @2 3>5",
		"write mine 0;-1;-1 @5 1>1 tells 7")
}

// How many steps an operation takes (8.16), for each number of entries, with a boost and without.
func TestHowManySteps(t *testing.T) {
	values := make([]api.Value, 9)
	for _, kind := range []int{api.Polite, api.Karma, api.Polka, api.Greedy, api.Oracle} {
		for r := range 7 {
			f := layOver(t, kind, 10, values, nil)
			a := f.attempt(0)
			boost := 0
			if f.s.Manager.Keeps() {
				boost = 1
			}
			for o := range r {
				f.ok(a.Read(o))
				f.takesSteps(a, 2+2*o+1+boost)
			}
			f.ok(a.Write(7))
			f.takesSteps(a, 3+2*r+1+boost)
			f.ok(a.Read(7))
			f.takesSteps(a, 1)
			f.ok(a.Write(7))
			f.takesSteps(a, 1)
			if r > 0 {
				f.ok(a.Read(0))
				f.takesSteps(a, 1)
				f.ok(a.Write(0))
				f.takesSteps(a, 3+2*(r-1)+1+boost)
			}
			f.ok(a.Read(8))
			f.takesSteps(a, 2+2*max(r-1, 0)+1+boost)
			f.ok(a.Finish())
			f.takesSteps(a, 2*(max(r-1, 0)+1)+1)
			if a.State() != api.StateOver {
				t.Errorf("state %d", a.State())
			}
		}
	}
}

func (f *floor) takesSteps(a *txn.Attempt, want int) {
	f.Helper()
	n := 0
	for ; a.State() == api.StateBusy; n++ {
		f.open()
		_, e := a.Step()
		f.ok(e)
	}
	if n != want {
		f.Fatalf("%d steps, want %d", n, want)
	}
}

func TestNewRefuses(t *testing.T) {
	f := lay(t, api.Karma, 5)
	before := f.s.Memory.Size()
	for missing := range 4 {
		s := f.s
		switch missing {
		case 0:
			s.Memory = nil
		case 1:
			s.World = nil
		case 2:
			s.Manager = nil
		case 3:
			s.Draws = nil
		}
		if a, e := txn.New(s, api.Owner{Priority: -1}, 3); a != nil || e != api.ErrRoom {
			t.Errorf("without the scene's part %d: %v, %d", missing, a, e)
		}
	}
	if a, e := txn.New(txn.Scene{}, api.Owner{}, 0); a != nil || e != api.ErrRoom {
		t.Errorf("without a scene: %v, %d", a, e)
	}
	for _, c := range append(far, before) {
		if a, e := txn.New(f.s, api.Owner{Priority: c}, 3); a != nil || e != api.ErrCell {
			t.Errorf("priority %d: %v, %d", c, a, e)
		}
	}
	if f.s.Memory.Size() != before || len(f.s.Memory.Log()) != 0 {
		t.Error("a refused New changes something")
	}
	if a := f.attempt(0); a.Number() != 1 {
		t.Errorf("number %d", a.Number())
	}
}

// Under the managers that keep no priorities any Priority may stand there; no New takes an access.
func TestNewKinds(t *testing.T) {
	for kind := range api.Managers {
		f := lay(t, kind, 5)
		for i, c := range append(far, 0, 3) {
			a, e := txn.New(f.s, api.Owner{Thread: -7, Stamp: 9, Priority: c}, int64(c))
			if f.s.Manager.Keeps() && (c < 0 || c >= 4) {
				if a != nil || e != api.ErrCell {
					t.Errorf("kind %d, priority %d: %v, %d", kind, c, a, e)
				}
				continue
			}
			if a == nil || e != api.OK || a.Rank() != int64(c) {
				t.Fatalf("kind %d, priority %d: %v, %d", kind, c, a, e)
			}
			f.state(a, api.StateOpen, 0)
			if own, e := f.s.World.Owner(a.Number()); e != api.OK || own != (api.Owner{Thread: -7, Stamp: 9, Priority: c}) {
				t.Errorf("owner %v, %d", own, e)
			}
			if !f.s.Manager.Keeps() && a.Number() != i+1 {
				t.Errorf("number %d, want %d", a.Number(), i+1)
			}
		}
		if len(f.s.Memory.Log()) != 0 {
			t.Error("New takes an access")
		}
	}
}

// The world's own refusals come last, and are answered as they are.
func TestNewWithoutRoom(t *testing.T) {
	f := lay(t, api.Karma, 5)
	for f.s.Memory.Size() < api.MaxCells-1 {
		_, e := f.s.Memory.Make(0)
		f.ok(e)
	}
	if a, e := txn.New(f.s, api.Owner{Priority: -1}, 0); a != nil || e != api.ErrCell {
		t.Errorf("%v, %d", a, e)
	}
	if a, e := txn.New(f.s, api.Owner{Priority: 4}, 0); a != nil || e != api.ErrRoom {
		t.Errorf("%v, %d", a, e)
	}
	f = lay(t, api.Polite, 5)
	for n := 1; n < api.MaxAttempts; n++ {
		if a, e := txn.New(f.s, api.Owner{}, 0); e != api.OK || a.Number() != n {
			t.Fatalf("%v, %d", a, e)
		}
	}
	if a, e := txn.New(f.s, api.Owner{}, 0); a != nil || e != api.ErrRoom {
		t.Errorf("%v, %d", a, e)
	}
	s := f.s
	s.World = &locator.World{}
	if a, e := txn.New(s, api.Owner{}, 0); a != nil || e != api.ErrRoom {
		t.Errorf("%v, %d", a, e)
	}
}

// over looks that every call of an attempt that is over is refused as such, with any numbers.
func (f *floor) over(a *txn.Attempt) {
	f.Helper()
	if a.State() != api.StateOver {
		f.Fatalf("state %d", a.State())
	}
	for _, n := range append(far, 0, 1, 2, 3) {
		if e := a.Read(n); e != api.ErrOver {
			f.Errorf("Read(%d) = %d", n, e)
		}
		if e := a.Write(n); e != api.ErrOver {
			f.Errorf("Write(%d) = %d", n, e)
		}
		if e := a.Put(n, api.Value{Num: 3}); e != api.ErrOver {
			f.Errorf("Put(%d) = %d", n, e)
		}
		if o, e := a.Release(n); o != 0 || e != api.ErrOver {
			f.Errorf("Release(%d) = %d, %d", n, o, e)
		}
		if e := a.Quit(n); e != api.ErrOver {
			f.Errorf("Quit(%d) = %d", n, e)
		}
	}
	if e := a.Finish(); e != api.ErrOver {
		f.Errorf("Finish = %d", e)
	}
	f.stepsNot(a, api.ErrOver)
	if a.State() != api.StateOver {
		f.Errorf("state %d", a.State())
	}
}

func (f *floor) stepsNot(a *txn.Attempt, want api.Errno) {
	f.Helper()
	if r, e := a.Step(); r != (api.Row{}) || e != want {
		f.Errorf("Step = %+v, %d, want %d", r, e, want)
	}
}

func TestNilAndZero(t *testing.T) {
	f := lay(t, api.Polite, 5)
	for _, a := range []*txn.Attempt{nil, {}} {
		if a.Number() != 0 || a.Rank() != 0 || a.Reads() != 0 {
			t.Errorf("%d, %d, %d", a.Number(), a.Rank(), a.Reads())
		}
		for _, n := range append(far, 0, 1) {
			if a.Owns(n) {
				t.Errorf("owns %d", n)
			}
		}
		f.over(a)
	}
}

// What is told when the attempt is over, by each end; and that nothing can be asked for any more.
func TestOver(t *testing.T) {
	for end := api.EndCommit; end <= api.EndKilled; end++ {
		f := layOver(t, api.Karma, 5, fixture.Numbers(7, 8, 9), nil)
		a := f.attempt(0)
		f.ok(a.Read(0))
		f.takesSteps(a, 4)
		f.ok(a.Write(1))
		f.takesSteps(a, 7)
		f.ok(a.Put(1, api.Value{Num: 5}))
		switch end {
		case api.EndStale:
			b := f.attempt(1)
			f.ok(b.Write(0))
			f.takesSteps(b, 5)
			f.ok(b.Finish())
			f.takesSteps(b, 1)
			f.ok(a.Finish())
		case api.EndKilled:
			f.killed(a)
			f.ok(a.Finish())
		case api.EndCommit:
			f.ok(a.Finish())
		default:
			f.ok(a.Quit(end))
		}
		var last api.Row
		for a.State() == api.StateBusy {
			f.open()
			r, e := a.Step()
			f.ok(e)
			last = r
		}
		if last.End != end {
			t.Fatalf("%q, want end %s", fixture.Row(last), fixture.End(end))
		}
		before := f.sight(a)
		f.over(a)
		f.open()
		f.stepsNot(a, api.ErrOver)
		if f.s.Memory.Took() != (api.Access{}) {
			t.Error("an access")
		}
		if after := f.sight(a); after != before {
			t.Errorf("from %+v to %+v", before, after)
		}
		f.state(a, api.StateOver, 1, 1)
		if a.Number() != 1 || a.Rank() != 2 {
			t.Errorf("number %d, rank %d", a.Number(), a.Rank())
		}
		want := int64(8)
		if end == api.EndCommit {
			want = 5
		}
		if got := f.s.World.Committed()[1].Num; got != want {
			t.Errorf("end %s: committed %d, want %d", fixture.End(end), got, want)
		}
	}
}

// The refusals in their order; none changes anything.
func TestRefusals(t *testing.T) {
	f := lay(t, api.Polite, 5)
	a := f.attempt(0)
	f.ok(a.Read(1))
	f.takesSteps(a, 3)
	f.ok(a.Write(0))
	f.takesSteps(a, 6)
	before := f.sight(a)
	for _, n := range append(far, 2, 3) {
		if a.Read(n) != api.ErrObject || a.Write(n) != api.ErrObject || a.Put(n, api.Value{Num: 1}) != api.ErrObject {
			t.Errorf("object %d", n)
		}
		f.releases(a, n, 0, api.ErrObject)
	}
	if a.Put(1, api.Value{Num: 1}) != api.ErrNotOwn {
		t.Error("not its own")
	}
	for _, why := range append(far, api.EndNone, api.EndCommit, api.EndStale, api.EndKilled, api.EndKilled+1) {
		if a.Quit(why) != api.ErrWhy {
			t.Errorf("Quit(%d)", why)
		}
	}
	f.stepsNot(a, api.ErrIdle)
	f.releases(a, 0, -1, api.OK)
	if after := f.sight(a); after != before {
		t.Errorf("from %+v to %+v", before, after)
	}
	f.ok(a.Read(0))
	f.does(a, 0, "read local 0;-1;-1 tells 7")
	f.ok(a.Read(1))
	f.does(a, 0, "read local 1;0;-1 tells 8")
	f.ok(a.Finish())
	f.does(a, 0, "final point 1;0;-1 @3 1>1")
	f.busy(a)
	f.does(a, 0, "final status 1;0;0 @0 2>2")
	f.busy(a)
	f.does(a, 0, "final commit -1;-1;-1 @5 1>2 end commit")
}

// busy looks that every call but Step is refused while an operation is under way, and changes nothing.
func (f *floor) busy(a *txn.Attempt) {
	f.Helper()
	before := f.sight(a)
	for _, n := range append(far, 0, 1, 2) {
		_, e := a.Release(n)
		for i, e := range []api.Errno{a.Read(n), a.Write(n), a.Put(n, api.Value{Num: 1}), a.Quit(n), a.Finish(), e} {
			if e != api.ErrBusy {
				f.Errorf("call %d of %d = %d", i, n, e)
			}
		}
		f.releases(a, n, 0, api.ErrBusy)
	}
	if after := f.sight(a); after != before || after.state != api.StateBusy {
		f.Errorf("from %+v to %+v", before, after)
	}
}

// What is asked for while an operation is under way is refused at every step of it.
func TestBusy(t *testing.T) {
	f := lay(t, api.Greedy, 5)
	f.ok(f.attempt(0).Finish())
	a := f.attempt(1)
	for _, begin := range []func() api.Errno{
		func() api.Errno { return a.Read(0) },
		func() api.Errno { return a.Read(0) },
		func() api.Errno { return a.Write(1) },
		func() api.Errno { return a.Write(1) },
		func() api.Errno { return a.Finish() },
	} {
		f.ok(begin())
		for a.State() == api.StateBusy {
			f.busy(a)
			f.open()
			_, e := a.Step()
			f.ok(e)
		}
	}
	b := f.attempt(2)
	f.ok(b.Quit(api.EndUser))
	f.busy(b)
}

// Two scenes share nothing, and the attempts of one have each their own table and objects.
func TestApart(t *testing.T) {
	f, g := lay(t, api.Polite, 5), lay(t, api.Polite, 5)
	a, b, c := f.attempt(0), f.attempt(1), g.attempt(0)
	f.ok(a.Read(0))
	f.takesSteps(a, 3)
	f.ok(a.Write(1))
	f.takesSteps(a, 6)
	f.state(b, api.StateOpen, 0)
	g.state(c, api.StateOpen, 0)
	g.ok(c.Write(1))
	g.does(c, 0, "write point 1;-1;-1 @3 1>1", "write status 1;-1;0 @0 2>2", "write acquire 1;-1;-1 @3 1>2",
		"write mine 1;-1;-1 @5 1>1 tells 8")
}

// The cells may stand anywhere: those of others may lie ahead of them.
func TestOtherCells(t *testing.T) {
	m := cell.New()
	for range 40 {
		m.Make(-1)
	}
	w, e := locator.New(m, fixture.Numbers(7))
	c, _ := cm.New(api.Karma, 5)
	f := &floor{T: t, s: txn.Scene{Memory: m, World: w, Manager: c, Draws: lay(t, api.Polite, 1).s.Draws}}
	f.ok(e)
	a := f.attempt(0)
	f.ok(a.Write(0))
	f.does(a, 0, "write point 0;-1;-1 @42 0>0", "write status 0;-1;0 @40 2>2", "write acquire 0;-1;-1 @42 0>1",
		"write mine 0;-1;-1 @44 1>1", "write boost 0;-1;-1 @43 0>1 tells 7")
	f.ok(a.Finish())
	f.does(a, 0, "final commit -1;-1;-1 @44 1>2 end commit")
}

// Where the world has no room for a locator, Step ends.
func TestNoRoomForALocator(t *testing.T) {
	f := lay(t, api.Polite, 5)
	a, b := f.attempt(0), f.attempt(1)
	for range api.MaxLocators - 2 {
		_, e := f.s.World.Make(b.Number(), 0)
		f.ok(e)
	}
	f.ok(a.Write(0))
	for range 20 {
		f.open()
		if _, e := a.Step(); e != api.OK && e != api.ErrRoom {
			t.Fatalf("Step = %d", e)
		}
	}
	f.state(a, api.StateBusy, 0)
	f.committed(7, 8)
}

// Where somebody else writes into the world's cells, or commits for the attempt, every Step still ends.
func TestSpoilt(t *testing.T) {
	for c := range 7 {
		for _, v := range []int64{math.MinInt64, -1, 0, 1, 2, 3, 4, 99, math.MaxInt64} {
			f := lay(t, api.Greedy, 3)
			a, b := f.attempt(0), f.attempt(1)
			f.ok(a.Read(1))
			f.takesSteps(a, 3)
			f.ok(b.Write(0))
			f.takesSteps(b, 4)
			f.ok(a.Write(0))
			for i := range 60 {
				f.open()
				if i == 7 {
					was, _ := f.s.Memory.Peek(c)
					f.s.Memory.Swap(c, was, v)
					continue
				}
				a.Step()
				a.Finish()
			}
		}
	}
	f := lay(t, api.Polite, 3)
	a := f.attempt(0)
	f.ok(a.Write(0))
	f.takesSteps(a, 4)
	f.open()
	f.s.World.Commit(a.Number())
	a.Put(0, api.Value{Num: 1})
	f.ok(a.Write(1))
	for range 9 {
		f.open()
		a.Step()
	}
	if got := fmt.Sprint(f.s.World.Committed()); got != fmt.Sprint(fixture.Numbers(7, 8)) {
		t.Errorf("committed %s", got)
	}
}
