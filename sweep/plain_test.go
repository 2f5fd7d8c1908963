package sweep_test

import (
	"slices"
	"testing"

	"braid/api"
	"braid/judge"
	"braid/machine"
)

// plain is the tally of runs that are made one by one, in the order of their lists.
func plain(t *testing.T, s machine.Script, depth int) api.Tally {
	t.Helper()
	var sum api.Tally
	for _, l := range plainLists(len(s.Threads), depth) {
		run := plainRun(t, s, l)
		if sum.Runs == 0 || run.Retries > sum.Most {
			sum.Most, sum.Worst = run.Retries, l
		}
		sum.Runs++
		sum.Commits += run.Commits
		sum.Retries += run.Retries
		sum.Timeouts += run.Timeouts
		sum.Unfinished += run.Unfinished
		sum.Bad += run.Bad
	}
	return sum
}

// plainLists lays each pick ahead of each shorter list.
func plainLists(threads, depth int) [][]int64 {
	if depth == 0 {
		return [][]int64{nil}
	}
	var lists [][]int64
	for p := range threads {
		for _, shorter := range plainLists(threads, depth-1) {
			lists = append(lists, slices.Concat([]int64{int64(p)}, shorter))
		}
	}
	return lists
}

// plainRun counts of one run what can be counted in another way than the chapter says it: attempts by their Try, jobs by
// their RowReturn.
func plainRun(t *testing.T, s machine.Script, behind []int64) api.Tally {
	t.Helper()
	s.Picks = slices.Concat(s.Picks, behind)
	r, e := machine.Run(s)
	if e != api.OK {
		t.Fatalf("machine.Run = %d", e)
	}
	var run api.Tally
	tries := map[[2]int]int{}
	for _, jobs := range s.Threads {
		run.Unfinished += len(jobs)
	}
	for _, row := range r.Rows {
		if row.Thread >= 0 {
			tries[[2]int{row.Thread, row.Job}] = row.Try
		}
		switch {
		case row.Kind == api.RowCommit && row.Done:
			run.Commits++
		case row.Kind == api.RowLook && row.Timeout:
			run.Timeouts++
		case row.Kind == api.RowReturn:
			run.Unfinished--
		}
	}
	for _, n := range tries {
		run.Retries += n - 1
	}
	first, _ := machine.First(s)
	serial, e := judge.Serial(s, r)
	opaque, f := judge.Opaque(first, r.Rows)
	if !serial.Good || !opaque.Good || e != api.OK || f != api.OK {
		run.Bad = 1
	}
	return run
}
