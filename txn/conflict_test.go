package txn_test

import (
	"fmt"
	"math"
	"testing"

	"braid/api"
	"braid/fixture"
	"braid/txn"
)

// held lays a floor over 7 and 8 on which attempt 1, of a thread of that number, owns object 0.
func held(t *testing.T, kind, patience, thread int, draws ...int64) (*floor, *txn.Attempt) {
	t.Helper()
	f := lay(t, kind, patience, draws...)
	a := f.attempt(thread)
	f.ok(a.Write(0))
	for a.State() == api.StateBusy {
		f.open()
		_, e := a.Step()
		f.ok(e)
	}
	f.state(a, api.StateOpen, 0, 0)
	return f, a
}

// waits are the lines of a wait of k steps, in a phase, at a place: an object, an entry and an enemy.
func waits(phase string, place string, k int) []string {
	var lines []string
	for left := k - 1; left >= 0; left-- {
		line := fmt.Sprintf("%s wait %s", phase, place)
		if left > 0 {
			line += fmt.Sprintf(" wait %d", left)
		}
		lines = append(lines, line)
	}
	return lines
}

func TestPolite(t *testing.T) {
	f, _ := held(t, api.Polite, 9, 0, -1, -1, 5, 0)
	b := f.attempt(1)
	f.ok(b.Write(0))
	look := []string{"write point 0;-1;-1 @2 2>2", "write status 0;-1;1 @5 1>1", "write mine 0;-1;1 @8 1>1"}
	for tries, k := range []int{1, 2, 2, 1} { // 1 and the lowest bits of the draws, as many as there were tries
		f.does(b, 1, look...)
		f.does(b, 1, fmt.Sprintf("write look 0;-1;1 wait %d", k))
		f.does(b, 1, waits("write", "0;-1;1", k)...)
		if f.s.Draws.Taken() != tries+1 {
			t.Fatalf("%d draws", f.s.Draws.Taken())
		}
	}
	// the draws are at their end; 6 of the 9 steps are waited
	for range 3 {
		f.does(b, 1, look...)
		f.does(b, 1, "write look 0;-1;1 wait 1", "write wait 0;-1;1")
	}
	f.does(b, 1, look...)
	f.does(b, 1, "write look 0;-1;1 abort timeout", "write kill 0;-1;1 @5 1>3", "write point 0;-1;-1 @2 2>2",
		"write status 0;-1;1 @5 3>3", "write acquire 0;-1;-1 @2 2>3", "write mine 0;-1;-1 @8 1>1 tells 7")
}

// Karma sees the enemy's priority as it is at that step, holds the own rank with the tries against it, and each open
// that looks at its object adds 1 to the own one.
func TestKarma(t *testing.T) {
	f := lay(t, api.Karma, 100, 9, 9, 9, 9)
	a := f.ranked(0, 1)
	f.ok(a.Write(0))
	f.does(a, 0, "write point 0;-1;-1 @2 0>0", "write status 0;-1;0 @0 2>2", "write acquire 0;-1;-1 @2 0>2",
		"write mine 0;-1;-1 @5 1>1", "write boost 0;-1;-1 @4 1>2 tells 7")
	if a.Rank() != 2 {
		t.Fatalf("rank %d", a.Rank())
	}
	b := f.attempt(1)
	f.ok(b.Read(1))
	f.does(b, 1, "read point 1;-1;-1 @3 1>1", "read status 1;-1;0 @0 2>2", "read mine 1;-1;-1 @8 1>1")
	f.state(b, api.StateBusy, 0)
	if b.Rank() != 0 {
		t.Fatalf("rank %d", b.Rank())
	}
	f.does(b, 1, "read boost 1;0;-1 @7 0>1 tells 8")
	f.state(b, api.StateOpen, 1)
	f.ok(b.Read(1)) // nothing is opened anew
	f.does(b, 1, "read local 1;0;-1 tells 8")
	if b.Rank() != 1 {
		t.Fatalf("rank %d", b.Rank())
	}
	f.ok(b.Read(0))
	look := []string{"read point 0;-1;-1 @2 2>2", "read status 0;-1;1 @5 1>1", "read mine 0;-1;1 @8 1>1"}
	f.does(b, 1, look...)
	f.does(b, 1, "read look 0;-1;1 @4 2>2 wait 4") // 1 and 0 against 2
	f.does(b, 1, waits("read", "0;-1;1", 4)...)
	f.does(b, 1, look...)
	f.does(b, 1, "read look 0;-1;1 @4 2>2 wait 4") // 1 and 1 against 2
	f.ok(a.Read(1))
	f.takesSteps(a, 4)
	f.does(b, 1, waits("read", "0;-1;1", 4)...)
	f.does(b, 1, look...)
	f.does(b, 1, "read look 0;-1;1 @4 3>3 wait 4") // 1 and 2 against 3
	f.does(b, 1, waits("read", "0;-1;1", 4)...)
	f.does(b, 1, look...)
	f.does(b, 1, "read look 0;-1;1 @4 3>3 abort", "read kill 0;-1;1 @5 1>3", "read point 0;-1;-1 @2 2>2",
		"read status 0;-1;1 @5 3>3", "read point 1;0;-1 @3 1>1", "read status 1;0;0 @0 2>2",
		"read mine 0;-1;-1 @8 1>1", "read boost 0;1;-1 @7 1>2 tells 7")
	f.state(b, api.StateOpen, 2)
	if b.Rank() != 2 || f.s.Draws.Taken() != 4 {
		t.Errorf("rank %d, %d draws", b.Rank(), f.s.Draws.Taken())
	}
}

func TestPolka(t *testing.T) {
	f := lay(t, api.Polka, 100, 3, 1, 7, -1)
	a := f.ranked(0, 2)
	f.ok(a.Write(0))
	f.takesSteps(a, 5)
	b := f.ranked(1, 0)
	f.ok(b.Read(0))
	for _, k := range []int{1, 2, 4, 8} {
		f.does(b, 1, "read point 0;-1;-1 @2 2>2", "read status 0;-1;1 @5 1>1", "read mine 0;-1;1 @8 1>1",
			fmt.Sprintf("read look 0;-1;1 @4 3>3 wait %d", k))
		f.does(b, 1, waits("read", "0;-1;1", k)...)
	}
	f.does(b, 1, "read point 0;-1;-1 @2 2>2", "read status 0;-1;1 @5 1>1", "read mine 0;-1;1 @8 1>1",
		"read look 0;-1;1 @4 3>3 abort", "read kill 0;-1;1 @5 1>3", "read point 0;-1;-1 @2 2>2",
		"read status 0;-1;1 @5 3>3", "read mine 0;-1;-1 @8 1>1", "read boost 0;0;-1 @7 0>1 tells 7")
}

// Greedy: the older one kills at its first verdict, and sees the flag though it does not need it.
func TestGreedyOlder(t *testing.T) {
	f, a := held(t, api.Greedy, 6, 5)
	b := f.attempt(4)
	f.ok(b.Write(0))
	f.does(b, 4, "write point 0;-1;-1 @2 2>2", "write status 0;-1;1 @5 1>1", "write mine 0;-1;1 @8 1>1",
		"write look 0;-1;1 @6 0>0 abort", "write kill 0;-1;1 @5 1>3", "write point 0;-1;-1 @2 2>2",
		"write status 0;-1;1 @5 3>3", "write acquire 0;-1;-1 @2 2>3", "write mine 0;-1;-1 @8 1>1 tells 7")
	f.ok(a.Read(1))
	f.does(a, 5, "read point 1;-1;-1 @3 1>1", "read status 1;-1;0 @0 2>2", "read mine 1;-1;-1 @5 3>3 end killed")
	f.state(a, api.StateOver, 0, 0)
}

// Greedy: the younger one waits with its flag up, once in the conflict; the flag comes down as the conflict is over,
// and the look that ended it is not taken again.
func TestGreedyYounger(t *testing.T) {
	f, a := held(t, api.Greedy, 100, 0)
	f.ok(a.Put(0, api.Value{Num: 9}))
	b := f.attempt(1)
	f.ok(b.Read(0))
	f.does(b, 1, "read point 0;-1;-1 @2 2>2", "read status 0;-1;1 @5 1>1", "read mine 0;-1;1 @8 1>1",
		"read look 0;-1;1 @6 0>0 wait 4", "read up 0;-1;1 @9 0>1")
	f.does(b, 1, waits("read", "0;-1;1", 4)...)
	f.does(b, 1, "read point 0;-1;-1 @2 2>2", "read status 0;-1;1 @5 1>1", "read mine 0;-1;1 @8 1>1",
		"read look 0;-1;1 @6 0>0 wait 4", "read wait 0;-1;1 wait 3")
	f.ok(a.Finish())
	f.does(a, 0, "final commit -1;-1;-1 @5 1>2 end commit")
	f.does(b, 1, waits("read", "0;-1;1", 3)...) // to its end, though the enemy has ended
	f.does(b, 1, "read point 0;-1;-1 @2 2>2", "read status 0;-1;1 @5 2>2", "read down 0;-1;1 @9 1>0",
		"read mine 0;0;-1 @8 1>1 tells 9")
	f.state(b, api.StateOpen, 1)
}

// Greedy: an enemy that waits itself is in nobody's way.
func TestGreedyFlag(t *testing.T) {
	f, a := held(t, api.Greedy, 100, 0)
	b := f.attempt(1)
	f.ok(b.Write(1))
	f.takesSteps(b, 4)
	f.ok(b.Write(0))
	f.does(b, 1, "write point 0;-1;-1 @2 2>2", "write status 0;-1;1 @5 1>1", "write mine 0;-1;1 @8 1>1",
		"write look 0;-1;1 @6 0>0 wait 4", "write up 0;-1;1 @9 0>1", "write wait 0;-1;1 wait 3")
	c := f.attempt(2)
	f.ok(c.Read(1))
	f.does(c, 2, "read point 1;-1;-1 @3 3>3", "read status 1;-1;2 @8 1>1", "read mine 1;-1;2 @11 1>1",
		"read look 1;-1;2 @9 1>1 abort", "read kill 1;-1;2 @8 1>3", "read point 1;-1;-1 @3 3>3",
		"read status 1;-1;2 @8 3>3", "read mine 1;0;-1 @11 1>1 tells 8")
	f.does(b, 1, waits("write", "0;-1;1", 3)...)
	f.does(b, 1, "write point 0;-1;-1 @2 2>2", "write status 0;-1;1 @5 1>1", "write mine 0;-1;1 @8 3>3 end killed")
	f.state(b, api.StateOver, 0, 1)
	// the flag of an attempt that is over stays as it was
	if up, e := f.s.Memory.Peek(9); up != 1 || e != api.OK {
		t.Errorf("flag %d, %d", up, e)
	}
	f.state(a, api.StateOpen, 0, 0)
}

// A kill that comes behind waiting: the flag comes down ahead of the fresh look.
func TestGreedyTimeout(t *testing.T) {
	f, _ := held(t, api.Greedy, 1, 0)
	b := f.attempt(1)
	f.ok(b.Write(0))
	f.does(b, 1, "write point 0;-1;-1 @2 2>2", "write status 0;-1;1 @5 1>1", "write mine 0;-1;1 @8 1>1",
		"write look 0;-1;1 @6 0>0 wait 1", "write up 0;-1;1 @9 0>1", "write wait 0;-1;1",
		"write point 0;-1;-1 @2 2>2", "write status 0;-1;1 @5 1>1", "write mine 0;-1;1 @8 1>1",
		"write look 0;-1;1 @6 0>0 abort timeout", "write kill 0;-1;1 @5 1>3", "write down 0;-1;1 @9 1>0",
		"write point 0;-1;-1 @2 2>2", "write status 0;-1;1 @5 3>3", "write acquire 0;-1;-1 @2 2>3",
		"write mine 0;-1;-1 @8 1>1 tells 7")
}

// Oracle says what the draw says: without draws an abort, and no patience is heeded.
func TestOracle(t *testing.T) {
	f, _ := held(t, api.Oracle, 1, 0, 17, -1, 7, 6)
	b := f.attempt(1)
	f.ok(b.Read(0))
	for _, k := range []int{1, 16, 4} {
		f.does(b, 1, "read point 0;-1;-1 @2 2>2", "read status 0;-1;1 @5 1>1", "read mine 0;-1;1 @8 1>1",
			fmt.Sprintf("read look 0;-1;1 wait %d", k))
		f.does(b, 1, waits("read", "0;-1;1", k)...)
	}
	f.does(b, 1, "read point 0;-1;-1 @2 2>2", "read status 0;-1;1 @5 1>1", "read mine 0;-1;1 @8 1>1",
		"read look 0;-1;1 abort", "read kill 0;-1;1 @5 1>3", "read point 0;-1;-1 @2 2>2",
		"read status 0;-1;1 @5 3>3", "read mine 0;0;-1 @8 1>1 tells 7")
	f, _ = held(t, api.Oracle, 1, 0)
	b = f.attempt(1)
	f.ok(b.Read(0))
	f.does(b, 1, "read point 0;-1;-1 @2 2>2", "read status 0;-1;1 @5 1>1", "read mine 0;-1;1 @8 1>1",
		"read look 0;-1;1 abort", "read kill 0;-1;1 @5 1>3")
}

// The rank goes up to the greatest one, cell and all, and a rank beyond it is left as it is.
func TestGreatestRank(t *testing.T) {
	for _, kind := range []int{api.Karma, api.Polka} {
		for _, rank := range []int64{math.MinInt64, -5, 0, api.MaxRank - 2, api.MaxRank - 1, api.MaxRank, api.MaxRank + 1, math.MaxInt64} {
			f := layOver(t, kind, 5, make([]api.Value, 5), nil)
			a := f.ranked(0, rank)
			want := rank
			for o := range 4 {
				if o%2 == 0 {
					f.ok(a.Read(o))
				} else {
					f.ok(a.Write(o))
				}
				steps := 2 + 2*((o+1)/2) + 1 + o%2
				last := api.RowMine
				if want < api.MaxRank {
					want++
					steps++
					last = api.RowBoost
				}
				for i := range steps {
					f.open()
					r, e := a.Step()
					if e != api.OK || r.Told != (i == steps-1) || r.Told && r.Kind != last {
						t.Fatalf("rank %d, object %d, step %d: %q, %d", rank, o, i, fixture.Row(r), e)
					}
				}
				c, _ := f.s.World.StatusCell(a.Number())
				held, e := f.s.Memory.Peek(c - 1)
				if e != api.OK || held != want || a.Rank() != want {
					t.Fatalf("rank %d, cell %d, want %d", a.Rank(), held, want)
				}
			}
		}
	}
}

// Under a manager that keeps no priorities nothing is boosted.
func TestNoBoost(t *testing.T) {
	for _, kind := range []int{api.Polite, api.Greedy, api.Oracle} {
		f := lay(t, kind, 5)
		a := f.ranked(0, 3)
		f.ok(a.Read(0))
		f.does(a, 0, "read point 0;-1;-1 @2 0>0", "read status 0;-1;0 @0 2>2", "read mine 0;0;-1 @5 1>1 tells 7")
		if held, _ := f.s.Memory.Peek(4); held != 3 || a.Rank() != 3 {
			t.Errorf("rank %d, cell %d", a.Rank(), held)
		}
	}
}

// An enemy whose priority is no cell has the priority 0, and nothing is loaded for it.
func TestPriorityThatIsNoCell(t *testing.T) {
	for _, kind := range []int{api.Karma, api.Polka} {
		for _, c := range far {
			f := lay(t, kind, 5)
			att, e := f.s.World.Attempt(api.Owner{Thread: 3, Stamp: 3, Priority: c})
			f.ok(e)
			loc, e := f.s.World.Make(att, 0)
			f.ok(e)
			f.open()
			_, e = f.s.World.Acquire(0, 0, loc)
			f.ok(e)
			a := f.attempt(0)
			f.ok(a.Read(0))
			wait := 4
			if kind == api.Polka {
				wait = 1
			}
			f.does(a, 0, "read point 0;-1;-1 @2 2>2", "read status 0;-1;1 @4 1>1", "read mine 0;-1;1 @7 1>1",
				fmt.Sprintf("read look 0;-1;1 wait %d", wait))
			f.does(a, 0, waits("read", "0;-1;1", wait)...)
			f.does(a, 0, "read point 0;-1;-1 @2 2>2", "read status 0;-1;1 @4 1>1", "read mine 0;-1;1 @7 1>1",
				"read look 0;-1;1 abort", "read kill 0;-1;1 @4 1>3")
		}
	}
}

// A second conflict behind the first: another owner stands there as the wait is over. It begins with its own mine,
// with no tries and nothing waited.
func TestSecondConflict(t *testing.T) {
	f, a := held(t, api.Polite, 2, 0)
	b, c := f.attempt(1), f.attempt(2)
	f.ok(b.Read(0))
	f.does(b, 1, "read point 0;-1;-1 @2 2>2", "read status 0;-1;1 @5 1>1", "read mine 0;-1;1 @8 1>1",
		"read look 0;-1;1 wait 1", "read wait 0;-1;1", "read point 0;-1;-1 @2 2>2", "read status 0;-1;1 @5 1>1",
		"read mine 0;-1;1 @8 1>1", "read look 0;-1;1 wait 1")
	f.ok(a.Finish())
	f.takesSteps(a, 1)
	f.ok(c.Write(0))
	f.takesSteps(c, 4)
	f.does(b, 1, "read wait 0;-1;1", "read point 0;-1;-1 @2 3>3", "read status 0;-1;3 @11 1>1")
	for range 2 {
		f.does(b, 1, "read mine 0;-1;3 @8 1>1", "read look 0;-1;3 wait 1", "read wait 0;-1;3",
			"read point 0;-1;-1 @2 3>3", "read status 0;-1;3 @11 1>1")
	}
	f.does(b, 1, "read mine 0;-1;3 @8 1>1", "read look 0;-1;3 abort timeout", "read kill 0;-1;3 @11 1>3",
		"read point 0;-1;-1 @2 3>3", "read status 0;-1;3 @11 3>3", "read mine 0;0;-1 @8 1>1 tells 7")
}

// Under Greedy the flag comes down between the two, with the first enemy in its row, and goes up again.
func TestSecondConflictWithFlag(t *testing.T) {
	f, a := held(t, api.Greedy, 5, 0)
	b, c := f.attempt(2), f.attempt(1)
	f.ok(b.Write(0))
	f.does(b, 2, "write point 0;-1;-1 @2 2>2", "write status 0;-1;1 @5 1>1", "write mine 0;-1;1 @8 1>1",
		"write look 0;-1;1 @6 0>0 wait 4", "write up 0;-1;1 @9 0>1")
	f.does(b, 2, waits("write", "0;-1;1", 4)...)
	f.ok(a.Put(0, api.Value{Num: 70}))
	f.ok(a.Finish())
	f.takesSteps(a, 1)
	f.does(b, 2, "write point 0;-1;-1 @2 2>2")
	f.ok(c.Write(0))
	f.takesSteps(c, 4)
	f.does(b, 2, "write status 0;-1;1 @5 2>2", "write down 0;-1;1 @9 1>0", "write acquire 0;-1;-1 @2 3>3 lost",
		"write point 0;-1;-1 @2 3>3", "write status 0;-1;3 @11 1>1", "write mine 0;-1;3 @8 1>1",
		"write look 0;-1;3 @12 0>0 wait 4", "write up 0;-1;3 @9 0>1")
	f.does(b, 2, waits("write", "0;-1;3", 4)...)
	f.ok(c.Quit(api.EndUser))
	f.takesSteps(c, 1)
	d := f.attempt(0)
	f.ok(d.Write(0))
	f.takesSteps(d, 4)
	f.does(b, 2, "write point 0;-1;-1 @2 5>5", "write status 0;-1;4 @14 1>1", "write down 0;-1;3 @9 1>0",
		"write mine 0;-1;4 @8 1>1", "write look 0;-1;4 @15 0>0 wait 4", "write up 0;-1;4 @9 0>1")
	f.does(b, 2, waits("write", "0;-1;4", 4)...)
	f.does(b, 2, "write point 0;-1;-1 @2 5>5", "write status 0;-1;4 @14 1>1", "write mine 0;-1;4 @8 1>1",
		"write look 0;-1;4 @15 0>0 wait 1", "write wait 0;-1;4", "write point 0;-1;-1 @2 5>5",
		"write status 0;-1;4 @14 1>1", "write mine 0;-1;4 @8 1>1", "write look 0;-1;4 @15 0>0 abort timeout",
		"write kill 0;-1;4 @14 1>3", "write down 0;-1;4 @9 1>0", "write point 0;-1;-1 @2 5>5",
		"write status 0;-1;4 @14 3>3", "write acquire 0;-1;-1 @2 5>6", "write mine 0;-1;-1 @8 1>1 tells 70")
}

// reader lays a floor on which attempt 1 has read both objects, and attempt 2, the older one, owns object 1.
func reader(t *testing.T, kind, patience int) (f *floor, a, b *txn.Attempt) {
	t.Helper()
	f = lay(t, kind, patience)
	a, b = f.attempt(5), f.attempt(4)
	f.ok(a.Read(0))
	f.takesSteps(a, 3)
	f.ok(a.Read(1))
	f.takesSteps(a, 5)
	f.ok(b.Write(1))
	f.takesSteps(b, 4)
	f.ok(b.Put(1, api.Value{Num: 80}))
	f.ok(a.Finish())
	f.does(a, 5, "final point 0;0;-1 @2 0>0", "final status 0;0;0 @0 2>2", "final point 1;1;-1 @3 2>2",
		"final status 1;1;2 @8 1>1", "final mine 1;1;2 @5 1>1")
	return f, a, b
}

// In Finish a conflict's rows are the entry's, RowDown too; behind it the attempt is stale by the last look.
func TestFinishConflictThenStale(t *testing.T) {
	f, a, b := reader(t, api.Greedy, 9)
	f.does(a, 5, "final look 1;1;2 @9 0>0 wait 4", "final up 1;1;2 @6 0>1")
	f.does(a, 5, waits("final", "1;1;2", 4)...)
	f.ok(b.Finish())
	f.takesSteps(b, 1)
	f.does(a, 5, "final point 1;1;-1 @3 2>2", "final status 1;1;2 @8 2>2", "final down 1;1;2 @6 1>0")
	f.state(a, api.StateBusy, 2)
	f.does(a, 5, "final quit -1;-1;-1 @5 1>3 end stale")
	f.state(a, api.StateOver, 2)
}

// The same where the enemy aborts: the walk goes on behind the entry, and commits.
func TestFinishConflictThenCommit(t *testing.T) {
	f, a, b := reader(t, api.Greedy, 9)
	f.does(a, 5, "final look 1;1;2 @9 0>0 wait 4", "final up 1;1;2 @6 0>1")
	f.does(a, 5, waits("final", "1;1;2", 4)...)
	f.ok(b.Quit(api.EndUser))
	f.takesSteps(b, 1)
	f.does(a, 5, "final point 1;1;-1 @3 2>2", "final status 1;1;2 @8 3>3", "final down 1;1;2 @6 1>0",
		"final commit -1;-1;-1 @5 1>2 end commit")
}

// A new owner at the entry is a conflict first, though the entry's version is current no longer; then stale.
func TestFinishSecondConflict(t *testing.T) {
	f, a, b := reader(t, api.Greedy, 4)
	f.does(a, 5, "final look 1;1;2 @9 0>0 wait 4", "final up 1;1;2 @6 0>1")
	f.does(a, 5, waits("final", "1;1;2", 4)...)
	f.ok(b.Finish())
	f.takesSteps(b, 1)
	c := f.attempt(3)
	f.ok(c.Write(1))
	f.takesSteps(c, 4)
	f.does(a, 5, "final point 1;1;-1 @3 3>3", "final status 1;1;3 @11 1>1", "final down 1;1;2 @6 1>0",
		"final mine 1;1;3 @5 1>1", "final look 1;1;3 @12 0>0 wait 4", "final up 1;1;3 @6 0>1")
	f.does(a, 5, waits("final", "1;1;3", 4)...)
	f.does(a, 5, "final point 1;1;-1 @3 3>3", "final status 1;1;3 @11 1>1", "final mine 1;1;3 @5 1>1",
		"final look 1;1;3 @12 0>0 abort timeout", "final kill 1;1;3 @11 1>3", "final down 1;1;3 @6 1>0",
		"final point 1;1;-1 @3 3>3", "final status 1;1;3 @11 3>3", "final quit -1;-1;-1 @5 1>3 end stale")
}

// A Write's conflict too comes ahead of what its entry says; the flag comes down ahead of the quitting.
func TestWriteConflictThenStale(t *testing.T) {
	f := lay(t, api.Greedy, 9)
	a, b := f.attempt(5), f.attempt(4)
	f.ok(a.Read(0))
	f.takesSteps(a, 3)
	f.ok(b.Write(0))
	f.takesSteps(b, 4)
	f.ok(a.Write(0))
	f.does(a, 5, "write point 0;-1;-1 @2 2>2", "write status 0;-1;2 @8 1>1", "write mine 0;-1;2 @5 1>1",
		"write look 0;-1;2 @9 0>0 wait 4", "write up 0;-1;2 @6 0>1")
	f.ok(b.Finish())
	f.takesSteps(b, 1)
	f.does(a, 5, waits("write", "0;-1;2", 4)...)
	f.does(a, 5, "write point 0;-1;-1 @2 2>2", "write status 0;-1;2 @8 2>2", "write down 0;-1;2 @6 1>0",
		"write quit -1;-1;-1 @5 1>3 end stale")
	f.state(a, api.StateOver, 1)
}

// A kill that comes too late is no other than one that is done: a fresh look tells what has become of the object.
func TestKillLost(t *testing.T) {
	for _, commits := range []bool{true, false} {
		f, a := held(t, api.Greedy, 9, 5)
		f.ok(a.Put(0, api.Value{Num: 70}))
		b := f.attempt(4)
		f.ok(b.Read(0))
		f.does(b, 4, "read point 0;-1;-1 @2 2>2", "read status 0;-1;1 @5 1>1", "read mine 0;-1;1 @8 1>1",
			"read look 0;-1;1 @6 0>0 abort")
		if commits {
			f.ok(a.Finish())
			f.takesSteps(a, 1)
			f.does(b, 4, "read kill 0;-1;1 @5 2>2 lost", "read point 0;-1;-1 @2 2>2", "read status 0;-1;1 @5 2>2",
				"read mine 0;0;-1 @8 1>1 tells 70")
			continue
		}
		f.ok(a.Quit(api.EndUser))
		f.takesSteps(a, 1)
		f.does(b, 4, "read kill 0;-1;1 @5 3>3 lost", "read point 0;-1;-1 @2 2>2", "read status 0;-1;1 @5 3>3",
			"read mine 0;0;-1 @8 1>1 tells 7")
	}
}

// Behind a kill another one may stand there: that is a new conflict, with no tries.
func TestConflictBehindKill(t *testing.T) {
	f, _ := held(t, api.Oracle, 1, 0, 0, 1, 0)
	b, c := f.attempt(1), f.attempt(2)
	f.ok(b.Read(0))
	f.does(b, 1, "read point 0;-1;-1 @2 2>2", "read status 0;-1;1 @5 1>1", "read mine 0;-1;1 @8 1>1",
		"read look 0;-1;1 abort", "read kill 0;-1;1 @5 1>3")
	f.ok(c.Write(0))
	f.takesSteps(c, 4)
	f.does(b, 1, "read point 0;-1;-1 @2 3>3", "read status 0;-1;3 @11 1>1", "read mine 0;-1;3 @8 1>1",
		"read look 0;-1;3 wait 1", "read wait 0;-1;3", "read point 0;-1;-1 @2 3>3", "read status 0;-1;3 @11 1>1",
		"read mine 0;-1;3 @8 1>1", "read look 0;-1;3 abort", "read kill 0;-1;3 @11 1>3")
}

// In a validation an Active owner is not in the way: its old version is the current one; nor is an Aborted one.
func TestCheckIgnoresEnemies(t *testing.T) {
	f := layOver(t, api.Greedy, 5, fixture.Numbers(7, 8, 9), nil)
	a, b := f.attempt(0), f.attempt(1)
	f.ok(a.Read(0))
	f.takesSteps(a, 3)
	f.ok(b.Write(0))
	f.takesSteps(b, 4)
	f.ok(b.Put(0, api.Value{Num: 70}))
	f.ok(a.Read(1))
	f.does(a, 0, "read point 1;-1;-1 @3 1>1", "read status 1;-1;0 @0 2>2", "read point 0;0;-1 @2 3>3",
		"read status 0;0;2 @9 1>1", "read mine 1;1;-1 @6 1>1 tells 8")
	f.killed(b)
	f.ok(a.Write(2))
	f.does(a, 0, "write point 2;-1;-1 @4 2>2", "write status 2;-1;0 @0 2>2", "write acquire 2;-1;-1 @4 2>4",
		"write point 0;0;-1 @2 3>3", "write status 0;0;2 @9 3>3", "write point 1;1;-1 @3 1>1",
		"write status 1;1;0 @0 2>2", "write mine 2;-1;-1 @6 1>1 tells 9")
}

// story is a play of attempt 1 over three objects with, in this order, a Read, a Read in the way of attempt 2, a Write
// and a Finish; it comes through each kind of step but RowQuit. It hands on each row of attempt 1.
func story(t *testing.T, kind, killAt int) (rows []api.Row) {
	t.Helper()
	f := layOver(t, kind, 2, fixture.Numbers(7, 8, 9), nil)
	a := f.attempt(5)
	n := 0
	act := func(begin api.Errno) bool {
		t.Helper()
		f.ok(begin)
		for a.State() == api.StateBusy {
			if n == killAt {
				f.killed(a)
			}
			n++
			f.open()
			r, e := a.Step()
			f.ok(e)
			rows = append(rows, r)
		}
		return a.State() == api.StateOpen
	}
	if !act(a.Read(0)) {
		return rows
	}
	b := f.attempt(4)
	f.ok(b.Write(1))
	for b.State() == api.StateBusy {
		f.open()
		_, e := b.Step()
		f.ok(e)
	}
	if act(a.Read(1)) && act(a.Read(0)) && act(a.Write(2)) && act(a.Write(2)) {
		act(a.Finish())
	}
	return rows
}

// An attempt that is killed ahead of any step goes on, as if nothing were, to the next look at its own status or to
// its commit: there it is over.
func TestKilledAheadOfEachStep(t *testing.T) {
	for kind := range api.Managers {
		calm := story(t, kind, -1)
		if last := calm[len(calm)-1]; last.End != api.EndCommit {
			t.Fatalf("kind %d: %q", kind, fixture.Row(last))
		}
		for at := range calm {
			want := append([]api.Row(nil), calm[:at]...)
			for _, r := range calm[at:] {
				if r.Kind == api.RowMine || r.Kind == api.RowCommit {
					r.Seen, r.Wrote, r.End = api.Aborted, api.Aborted, api.EndKilled
					r.Done = r.Kind == api.RowMine
					if r.Told {
						r.Told, r.Value, r.Entry = false, api.Value{}, -1
					}
					want = append(want, r)
					break
				}
				want = append(want, r)
			}
			got := story(t, kind, at)
			if len(got) != len(want) {
				t.Fatalf("kind %d, killed ahead of %d: %d rows, want %d", kind, at, len(got), len(want))
			}
			for i := range got {
				if got[i] != want[i] {
					t.Fatalf("kind %d, killed ahead of %d: row %d %q, want %q", kind, at, i, fixture.Row(got[i]), fixture.Row(want[i]))
				}
			}
		}
	}
}

// A stale attempt that is killed ahead of its quitting is stale all the same.
func TestStaleAndKilled(t *testing.T) {
	f := lay(t, api.Polite, 5)
	a, b := f.attempt(0), f.attempt(1)
	f.ok(a.Read(0))
	f.takesSteps(a, 3)
	f.ok(b.Write(0))
	f.takesSteps(b, 4)
	f.ok(b.Finish())
	f.takesSteps(b, 1)
	f.ok(a.Write(0))
	f.does(a, 0, "write point 0;-1;-1 @2 2>2", "write status 0;-1;2 @8 2>2")
	f.killed(a)
	f.does(a, 0, "write quit -1;-1;-1 @5 3>3 lost end stale")
}

// An attempt that does not know yet that it is killed may put its locator into a cell: the object is its own.
func TestKilledAcquires(t *testing.T) {
	f := lay(t, api.Polite, 5)
	a := f.attempt(0)
	f.ok(a.Write(0))
	f.killed(a)
	f.does(a, 0, "write point 0;-1;-1 @2 0>0", "write status 0;-1;0 @0 2>2", "write acquire 0;-1;-1 @2 0>2",
		"write mine 0;-1;-1 @5 3>3 end killed")
	f.state(a, api.StateOver, 0, 0)
	f.committed(7, 8)
}

// How many steps a conflict takes (8.16): a round with a wait of k takes 2 + k, 1 more with RowUp, and 2 for the look
// behind it; one with a kill 3, and 2; 1 more with RowDown.
func TestStepsOfAConflict(t *testing.T) {
	for patience := 1; patience < 40; patience++ {
		for kind, flags := range map[int]int{api.Polite: 0, api.Greedy: 2} {
			f, _ := held(t, kind, patience, 0)
			b := f.attempt(1)
			f.ok(b.Read(0))
			rounds := (patience + 3) / 4
			if kind == api.Polite { // each wait is 1 step, and there are at most 8
				rounds = min(patience, 8)
				f.takesSteps(b, 2+rounds*(2+1+2)+3+2+1)
				continue
			}
			f.takesSteps(b, 2+rounds*(2+2)+patience+3+2+1+flags)
		}
	}
}
