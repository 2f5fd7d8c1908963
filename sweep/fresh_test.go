package sweep_test

import (
	"runtime"
	"slices"
	"sync"
	"testing"
	"time"

	"braid/api"
	"braid/fixture"
	"braid/machine"
	"braid/sweep"
)

// R3: the script stays as it was, the room behind its picks too.
func TestHandedIn(t *testing.T) {
	d := fixture.NewDice()
	for n := range 60 {
		s, depth := thrown(&d, n, 64)
		s.Picks = append(make([]int64, 0, len(s.Picks)+20), s.Picks...)
		fixture.Full(s.Picks[len(s.Picks):], 77)
		kept, room := fixture.Copied(s), slices.Clone(s.Picks[:cap(s.Picks)])
		for _, depth := range []int{depth, 0, 1, -1, 9, 8} {
			sweep.Run(s, depth)
		}
		if !fixture.SameScript(s, kept) || !slices.Equal(s.Picks[:cap(s.Picks)], room) {
			t.Fatal("the script was changed")
		}
	}
}

// R3: a Worst that was answered is the caller's, its spare room too, and the script is not kept.
func TestAnswersAreNew(t *testing.T) {
	s := skewed(t)
	s.Picks = turns(2, 48)
	want := api.Tally{Runs: 4, Timeouts: 8, Retries: 6, Unfinished: 8, Most: 2, Worst: list(0, 1)}
	a, b := swept(t, s, 2), swept(t, s, 2)
	fixture.Full(a.Worst, 99)
	if !same(b, want) {
		t.Errorf("%+v, want %+v", b, want)
	}
	tallies(t, s, 2, want)
	other := fixture.Copied(s)
	fixture.Full(s.Picks, 0)
	fixture.Full(s.Threads[0], machine.Job{})
	if !same(b, want) {
		t.Errorf("%+v, want %+v", b, want)
	}
	tallies(t, other, 2, want)
}

// 18.4 and R4: the same answer, however often it is asked for, by how many at once, and on however many processors.
func TestTheSameAgain(t *testing.T) {
	s := skewed(t)
	s.Threads = append(s.Threads, []machine.Job{{Kind: api.JobInsert, Key: 4}, {Kind: api.JobLeast}})
	s.Picks = turns(2, 46) // both are about to find that they were killed
	want := plain(t, s, 5)
	if want.Most < 2 || !slices.ContainsFunc(want.Worst, func(p int64) bool { return p != 0 }) {
		t.Fatalf("%+v", want)
	}
	for range 10 {
		tallies(t, s, 5, want)
	}
	var all sync.WaitGroup
	for range 6 {
		all.Go(func() {
			for range 5 {
				if got, e := sweep.Run(s, 5); e != api.OK || !same(got, want) {
					t.Errorf("%+v, %d, want %+v", got, e, want)
				}
			}
		})
	}
	all.Wait()
	for _, n := range []int{1, 2, 3} {
		before := runtime.GOMAXPROCS(n)
		got, e := sweep.Run(s, 5)
		runtime.GOMAXPROCS(before)
		if e != api.OK || !same(got, want) {
			t.Errorf("%d processors: %+v, %d, want %+v", n, got, e, want)
		}
	}
}

// 18.4 and R6: all workers have ended when a call has answered, or refused.
func TestNoWorkerIsLeft(t *testing.T) {
	s := empty(6)
	before := runtime.NumGoroutine()
	for n := range 40 {
		sweep.Run(s, []int{3, 2, 1, 0, 4, 9}[n%6])
		now := runtime.NumGoroutine()
		for range 1000 { // one that has done its work may take a moment to be gone
			if now <= before {
				break
			}
			time.Sleep(time.Millisecond)
			now = runtime.NumGoroutine()
		}
		if now > before {
			t.Fatalf("%d goroutines, %d ahead of the call", now, before)
		}
	}
}
