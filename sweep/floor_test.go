package sweep_test

import (
	"slices"
	"testing"

	"braid/api"
	"braid/fixture"
	"braid/machine"
	"braid/sweep"
)

const (
	adds = "get r1 @0\nadd r1 r1 1\nput @0 r1\ndone r1"
	skew = "get r1 @0\nif r1 != 0 e\nput @1 1\ne: done r1"
	back = "get r1 @1\nif r1 != 0 e\nput @0 1\ne: done r1" // skew the other way round
)

// jobs are programs that texts say.
func jobs(t *testing.T, texts ...string) []machine.Job {
	t.Helper()
	var list []machine.Job
	for _, text := range texts {
		list = append(list, machine.Job{Program: fixture.Program(t, text)})
	}
	return list
}

// scripted is a script of jobs, a thread for each list, over these numbers.
func scripted(numbers []int64, threads ...[]machine.Job) machine.Script {
	return machine.Script{Objects: numbers, Threads: threads, Patience: 10}
}

// empty is a script of so many threads, each with one program that is empty.
func empty(threads int) machine.Script {
	return scripted(nil, slices.Repeat([][]machine.Job{{{}}}, threads)...)
}

// adders is DOC.md's example 2: two threads add 1 to one object. Thread 1 finds at step 21 that it is stale.
func adders(t *testing.T) machine.Script {
	t.Helper()
	s := scripted([]int64{5}, jobs(t, adds), jobs(t, adds))
	s.Patience = 1
	return s
}

// skewed is DOC.md's example 4: two threads that read what the other one writes, without patience.
func skewed(t *testing.T) machine.Script {
	t.Helper()
	s := scripted([]int64{0, 0}, jobs(t, skew), jobs(t, back))
	s.Patience = 1
	return s
}

// picked is a script with these picks.
func picked(s machine.Script, picks ...int64) machine.Script {
	s.Picks = picks
	return s
}

// turns are n picks, of the threads one behind the other.
func turns(threads, n int) []int64 {
	picks := make([]int64, n)
	for i := range picks {
		picks[i] = int64(i % threads)
	}
	return picks
}

func same(a, b api.Tally) bool {
	return a.Runs == b.Runs && a.Commits == b.Commits && a.Retries == b.Retries && a.Timeouts == b.Timeouts &&
		a.Unfinished == b.Unfinished && a.Bad == b.Bad && a.Most == b.Most && slices.Equal(a.Worst, b.Worst)
}

// swept is a sweep that is not refused.
func swept(t *testing.T, s machine.Script, depth int) api.Tally {
	t.Helper()
	got, e := sweep.Run(s, depth)
	if e != api.OK {
		t.Fatalf("%d threads, %d picks: Run(%d) = %+v, %d", len(s.Threads), len(s.Picks), depth, got, e)
	}
	return got
}

func tallies(t *testing.T, s machine.Script, depth int, want api.Tally) {
	t.Helper()
	if got := swept(t, s, depth); !same(got, want) {
		t.Fatalf("%d threads, %d picks: Run(%d) = %+v, want %+v", len(s.Threads), len(s.Picks), depth, got, want)
	}
}

func refused(t *testing.T, s machine.Script, depth int, why api.Errno) {
	t.Helper()
	if got, e := sweep.Run(s, depth); e != why || !same(got, api.Tally{}) {
		t.Fatalf("%d threads, %d picks: Run(%d) = %+v, %d, want %d", len(s.Threads), len(s.Picks), depth, got, e, why)
	}
}

// list are picks.
func list(picks ...int64) []int64 { return picks }
