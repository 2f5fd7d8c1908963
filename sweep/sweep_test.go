package sweep_test

import (
	"math"
	"testing"

	"braid/api"
	"braid/fixture"
	"braid/machine"
)

// The chapter's section 'Limits and errors'.
func TestLimits(t *testing.T) {
	if api.MaxDepth != 8 || api.MaxRuns != 256 || api.MaxSweep != 256 || api.ErrDepth != 180 || api.ErrRuns != 181 {
		t.Errorf("%d, %d, %d, %d, %d", api.MaxDepth, api.MaxRuns, api.MaxSweep, api.ErrDepth, api.ErrRuns)
	}
}

// Chapter 18's example 1.
func TestThreadsWithoutJobs(t *testing.T) {
	for depth := -1; depth <= 9; depth++ {
		refused(t, machine.Script{Patience: 10}, depth, api.ErrThreads)
	}
	s := scripted(nil, nil)
	tallies(t, s, 0, api.Tally{Runs: 1})
	tallies(t, s, 2, api.Tally{Runs: 1, Worst: list(0, 0)})
	refused(t, s, 9, api.ErrDepth)
	refused(t, s, -1, api.ErrDepth)

	tallies(t, scripted(nil, nil, nil, nil), 3, api.Tally{Runs: 27, Worst: list(0, 0, 0)})
	s = scripted(nil, nil, []machine.Job{{}}) // one of two has a job: of eight lists four pick it twice, and [1 1 1] thrice
	tallies(t, s, 3, api.Tally{Runs: 8, Commits: 4, Unfinished: 7, Worst: list(0, 0, 0)})
}

// Chapter 18's example 2.
func TestOneThread(t *testing.T) {
	s := empty(1)
	tallies(t, s, 0, api.Tally{Runs: 1, Unfinished: 1})
	tallies(t, s, 1, api.Tally{Runs: 1, Unfinished: 1, Worst: list(0)})
	tallies(t, s, 2, api.Tally{Runs: 1, Commits: 1, Unfinished: 1, Worst: list(0, 0)})
	tallies(t, s, 3, api.Tally{Runs: 1, Commits: 1, Worst: list(0, 0, 0)})
	tallies(t, s, 8, api.Tally{Runs: 1, Commits: 1, Worst: list(0, 0, 0, 0, 0, 0, 0, 0)})
}

// Chapter 18's example 3, and a depth more.
func TestTwoThreads(t *testing.T) {
	s := empty(2)
	tallies(t, s, 1, api.Tally{Runs: 2, Unfinished: 4, Worst: list(0)})
	tallies(t, s, 2, api.Tally{Runs: 4, Commits: 2, Unfinished: 8, Worst: list(0, 0)})
	tallies(t, s, 3, api.Tally{Runs: 8, Commits: 8, Unfinished: 14, Worst: list(0, 0, 0)})
}

// Chapter 18's example 4.
func TestGreatestSweeps(t *testing.T) {
	if got := swept(t, empty(2), 8); got.Runs != 256 || got.Bad != 0 || len(got.Worst) != 8 {
		t.Errorf("%+v", got)
	}
	refused(t, empty(3), 6, api.ErrRuns)
	if got := swept(t, empty(6), 3); got.Runs != 216 {
		t.Errorf("%+v", got)
	}
	refused(t, picked(empty(1), make([]int64, 249)...), 8, api.ErrRuns)
	tallies(t, picked(empty(1), make([]int64, 248)...), 8, api.Tally{Runs: 1, Commits: 1, Worst: make([]int64, 8)})
}

// 18.1: so many lists for each number of threads and each depth, and just those that may be.
func TestHowManyLists(t *testing.T) {
	for threads := 1; threads <= api.MaxThreads; threads++ {
		lists := 1
		for depth := 0; depth <= api.MaxDepth; depth++ {
			if lists > api.MaxRuns {
				refused(t, empty(threads), depth, api.ErrRuns)
			} else if got := swept(t, empty(threads), depth); got.Runs != lists || len(got.Worst) != depth {
				t.Errorf("%d threads: Run(%d) = %+v, want %d runs", threads, depth, got, lists)
			}
			lists *= threads
		}
	}
}

// 18.1: as many picks as may be in a run, and one more, at each depth.
func TestHowManyPicks(t *testing.T) {
	for depth := 0; depth <= api.MaxDepth; depth++ {
		s := empty(1)
		s.Picks = make([]int64, api.MaxSweep-depth)
		tallies(t, s, depth, api.Tally{Runs: 1, Commits: 1, Worst: make([]int64, depth)})
		s.Picks = make([]int64, api.MaxSweep-depth+1)
		refused(t, s, depth, api.ErrRuns)
		s.Picks = make([]int64, api.MaxPicks)
		refused(t, s, depth, api.ErrRuns)
	}
	s := picked(empty(2), make([]int64, api.MaxSweep-8)...) // as many lists, and each as long, as may be
	if got := swept(t, s, 8); got.Runs != 256 {
		t.Errorf("%+v", got)
	}
	s.Picks = append(s.Picks, 0)
	refused(t, s, 8, api.ErrRuns)
	refused(t, picked(empty(3), s.Picks...), 8, api.ErrRuns) // too many lists that are too long
}

// A depth that may not be, alone and ahead of too many lists and too many picks.
func TestDepths(t *testing.T) {
	for _, depth := range []int{-1, api.MaxDepth + 1, -2, 10, 64, math.MinInt, math.MinInt + 1, math.MaxInt, math.MaxInt - 1, 1 << 32} {
		refused(t, empty(1), depth, api.ErrDepth)
		refused(t, empty(6), depth, api.ErrDepth)
		refused(t, picked(empty(1), make([]int64, api.MaxSweep+1)...), depth, api.ErrDepth)
		refused(t, picked(empty(6), make([]int64, api.MaxPicks)...), depth, api.ErrDepth)
	}
}

// What machine.Check refuses, each ahead of a depth that may not be, of too many lists and of too many picks.
func TestScriptsThatMayNotBe(t *testing.T) {
	for _, picks := range []int{0, 9, api.MaxSweep + 1} {
		for why, s := range fixture.Faulty(picked(empty(6), make([]int64, picks)...)) {
			for _, depth := range []int{0, 1, 4, 8, -1, 9, math.MinInt, math.MaxInt} {
				refused(t, s, depth, why)
			}
		}
	}
}
