package shrink_test

import (
	"testing"

	"braid/api"
	"braid/machine"
	"braid/shrink"
)

// DOC.md's example 2 adds 1 to one object twice; its examples 3 and 4 read what the other thread writes.
const (
	adds = "get r1 @0\nadd r1 r1 1\nput @0 r1\ndone r1"
	skew = "get r1 @0\nif r1 != 0 e\nput @1 1\ne: done r1"
	back = "get r1 @1\nif r1 != 0 e\nput @0 1\ne: done r1"
)

// The chapter's section 'What can be wished', and the numbers of its errors and of its limit.
func TestNumbers(t *testing.T) {
	if api.WishStale != 0 || api.WishKilled != 1 || api.WishTimeout != 2 || api.WishLost != 3 || api.WishWait != 4 || api.WishCommit != 5 || api.Wishes != 6 {
		t.Error("the wishes have other numbers")
	}
	if api.ErrWish != 220 || api.ErrSize != 221 || api.MaxShrink != 48 {
		t.Errorf("%d, %d, %d", api.ErrWish, api.ErrSize, api.MaxShrink)
	}
}

// since looks that a run has each wish from a step on, and not ahead of it; -1: never.
func since(t *testing.T, s machine.Script, steps [api.Wishes]int) {
	t.Helper()
	all := s.Picks
	for n := range len(all) + 1 {
		s.Picks = all[:n]
		for wish, step := range steps {
			want := step >= 0 && n > step
			if got, e := shrink.Has(s, wish); got != want || e != api.OK {
				t.Fatalf("%d picks: Has(%d) = %v, %d, want %v", n, wish, got, e, want)
			}
		}
	}
}

// 22.1: every wish in the runs that DOC.md tells step by step (examples 2, 3 and 4).
func TestWishesStepByStep(t *testing.T) {
	two := script(turns(44), thread(t, adds), thread(t, adds))
	two.Patience = 1
	since(t, two, [api.Wishes]int{
		api.WishStale: 21, api.WishKilled: -1, api.WishTimeout: -1, api.WishLost: 15, api.WishWait: -1, api.WishCommit: 41,
	})
	three := script(turns(66), thread(t, skew), thread(t, back))
	three.Manager, three.Patience = api.Greedy, 50
	since(t, three, [api.Wishes]int{ // wait 4 is said at 29; killed at 30, but stale all the same
		api.WishStale: 47, api.WishKilled: -1, api.WishTimeout: -1, api.WishLost: -1, api.WishWait: 33, api.WishCommit: 63,
	})
	four := script(turns(50), thread(t, skew), thread(t, back))
	four.Patience = 1
	since(t, four, [api.Wishes]int{ // both are killed at 40 and 41
		api.WishStale: -1, api.WishKilled: 46, api.WishTimeout: 38, api.WishLost: -1, api.WishWait: 30, api.WishCommit: -1,
	})
}

// No run, no row: no wish.
func TestNothingWished(t *testing.T) {
	fulfils(t, script(nil, thread(t, adds), thread(t, adds)))
	fulfils(t, script(nil, nil))
	fulfils(t, script(list(0, 100, -1, 3, 1, 100), nil, nil))
	fulfils(t, script(list(2, 50, -1, 50), thread(t, adds), thread(t, adds)))
	fulfils(t, script(list(0, 100), thread(t, adds)))
}

// Two rows with EndCommit of one thread are not enough; nor is another outcome of another thread.
func TestTwoThreadsCommit(t *testing.T) {
	s := script(list(0, 9), thread(t, "", "", ""), thread(t, "", "quit"), thread(t, "quit"), thread(t, "get r1 @9"), nil, []machine.Job{{Kind: api.JobSize}})
	fulfils(t, s)
	s.Picks = list(0, 9, 1, 1)
	fulfils(t, s)
	s.Picks = list(0, 9, 2, 3, 3, 3, 4, 3)
	fulfils(t, s)
	s.Picks = list(0, 9, 2, 3, 3, 3, 1, 1)
	fulfils(t, s)
	s.Picks = list(0, 9, 2, 3, 3, 3, 1, 2)
	fulfils(t, s, api.WishCommit)
	s.Picks = list(1, 2, 0, 2)
	fulfils(t, s, api.WishCommit)
	s.Picks = list(1, 6, 2, 3, 3, 3)
	fulfils(t, s)
	s.Picks = list(5, 100)
	fulfils(t, s)
	s.Picks = list(5, 100, 1, 2)
	fulfils(t, s, api.WishCommit)
}

// taken is a script in which thread 0 takes object 0 with its fourth pick, and thread 1 wants it and does not wait: behind
// the fourth pick of thread 0 it meets it with its third one, and aborts it with its sixth one.
func taken(t *testing.T, text string, picks ...int64) machine.Script {
	t.Helper()
	s := script(picks, thread(t, text), thread(t, "put @0 2"))
	s.Manager = api.Oracle
	return s
}

// 22.1: an attempt that is killed ends when it finds out, by whatever row; an abort that is none of patience is no timeout.
func TestKilled(t *testing.T) {
	for _, c := range []struct {
		text   string
		ahead  int64 // picks of thread 0 ahead of thread 1's
		behind int64 // behind them, the last one of which finds out
		kind   int
	}{
		{"put @0 1", 4, 1, api.RowMine},
		{"put @0 1", 5, 1, api.RowCommit},
		{"put @0 1\nquit", 5, 1, api.RowQuit},
		{"put @0 1\nput @9 1", 5, 1, api.RowQuit},
		{"put @0 1\nget r1 @1", 5, 3, api.RowMine},
		{"put @0 1\nput @1 1", 5, 4, api.RowMine},
	} {
		for killed := range int64(2) { // thread 1 has looked; it has killed
			s := taken(t, c.text, list(0, c.ahead, 1, 5+killed, 0, c.behind-1)...)
			fulfils(t, s)
			s.Picks = append(s.Picks, 0)
			if killed == 0 {
				fulfils(t, s)
			} else if last := lastOf(t, s); last.Kind != c.kind || last.End != api.EndKilled {
				t.Fatalf("%q: %+v", c.text, last)
			} else {
				fulfils(t, s, api.WishKilled)
			}
		}
	}
}

// In a conflict, too, an attempt finds out that it was killed.
func TestKilledInAConflict(t *testing.T) {
	s := taken(t, "put @0 1\nput @1 1", list(0, 5, 2, 5, 1, 6, 0, 2)...)
	s.Threads = append(s.Threads, thread(t, "put @1 3"))
	fulfils(t, s)
	s.Picks = append(s.Picks, 0)
	fulfils(t, s, api.WishKilled)
}

// 22.1: stale at an opening for reading, for writing, and at the end.
func TestStale(t *testing.T) {
	for _, c := range []struct {
		text   string
		behind int64 // picks of thread 0 behind thread 1's, the last one of which quits
	}{
		{"get r1 @0\nget r2 @1", 5},
		{"get r1 @0\nput @0 1", 3},
		{"get r1 @0\nput @1 1", 6},
		{"get r1 @0", 3},
	} {
		s := script(list(0, 4, 1, 6, 0, c.behind-1), thread(t, c.text), thread(t, "put @0 2"))
		fulfils(t, s)
		s.Picks = append(s.Picks, 0)
		fulfils(t, s, api.WishStale)
	}
}

// A RowAcquire that took is not lost, and other swaps that were lost are no RowAcquire.
func TestLost(t *testing.T) {
	writes := thread(t, "put @0 1")
	s := script(list(0, 3, 1, 3, 0, 1), writes, writes)
	fulfils(t, s)
	s.Picks = append(s.Picks, 1)
	fulfils(t, s, api.WishLost)
	for _, c := range []struct {
		s      machine.Script
		kind   int
		wishes []int
	}{
		{taken(t, "put @0 1", list(0, 5, 1, 6, 0, 1)...), api.RowCommit, []int{api.WishKilled}},
		{taken(t, "put @0 1\nquit", list(0, 5, 1, 6, 0, 1)...), api.RowQuit, []int{api.WishKilled}},
		{taken(t, "put @0 1", list(0, 5, 1, 5, 0, 1, 1, 1)...), api.RowKill, nil},
	} {
		if last := lastOf(t, c.s); last.Kind != c.kind || last.Done {
			t.Fatalf("%+v", last)
		}
		fulfils(t, c.s, c.wishes...)
	}
}

// A verdict to wait is no wait yet, nor is a flag that goes up.
func TestWait(t *testing.T) {
	for manager := range api.Oracle {
		ahead := int64(5)
		if manager == api.Greedy {
			ahead = 6
		}
		s := script(list(0, 4, 1, ahead), thread(t, "put @0 1"), thread(t, "put @0 2"))
		s.Manager = manager
		if look := run(t, s)[8]; look.Kind != api.RowLook || look.Wait == 0 || (manager == api.Greedy) != (lastOf(t, s).Kind == api.RowUp) {
			t.Fatalf("manager %d: %+v", manager, look)
		}
		fulfils(t, s)
		s.Picks = append(s.Picks, 1)
		fulfils(t, s, api.WishWait)
	}
}

// An abort is a timeout where patience ran out, and only there.
func TestTimeout(t *testing.T) {
	for manager := range api.Managers {
		s := script(list(0, 6, 1, 5), thread(t, "put @0 1\nlet r1 1\nlet r1 1"), thread(t, "put @0 2"))
		s.Manager, s.Patience, s.Draws = manager, 1, []int64{1, 0} // Oracle: one step, then an abort
		fulfils(t, s)
		var last api.Row
		for ; !last.Abort; last = lastOf(t, s) {
			s.Picks = append(s.Picks, 1)
		}
		if last.Timeout == (manager == api.Oracle) {
			t.Fatalf("manager %d: %+v", manager, last)
		}
		if manager == api.Oracle {
			fulfils(t, s, api.WishWait)
		} else {
			fulfils(t, s, api.WishWait, api.WishTimeout)
		}
	}
	s := script(list(0, 1, 1, 4, 0, 4), thread(t, "put @0 1"), thread(t, "put @0 2"))
	s.Manager, s.Patience = api.Greedy, 1
	if rows := run(t, s); !rows[8].Abort || rows[8].Timeout { // the older one does not wait at all
		t.Fatalf("%+v", rows[8])
	}
	fulfils(t, s)
}
