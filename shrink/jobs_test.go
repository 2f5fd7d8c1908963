package shrink_test

import (
	"slices"
	"testing"

	"braid/api"
	"braid/machine"
	"braid/shrink"
)

// Chapter 22's example 4.
func TestJobsOfTheChapter(t *testing.T) {
	s := overtaken(t)
	keeps(t, s, api.WishStale, s.Threads...)
	needed := s.Threads[1]
	s.Threads = [][]machine.Job{s.Threads[0], append(slices.Clone(needed), program(t, "quit"))}
	keeps(t, s, api.WishStale, s.Threads[0], needed)
}

// counts is a script in which thread 1 commits just if object 0 holds 2 when it reads it.
func counts(t *testing.T, picks int64, jobs ...machine.Job) machine.Script {
	t.Helper()
	return script(list(0, picks, 1, 8), jobs, thread(t, "get r1 @0\nif r1 == 2 e\nquit\ne: done r1"))
}

// The first job of a thread, one in the middle and the last one, where the thread's other jobs are needed; several of them.
func TestWhereAJobStands(t *testing.T) {
	inc, quit := program(t, "take r1 @0\nadd r1 r1 1\nput @0 r1"), program(t, "quit")
	for _, jobs := range [][]machine.Job{
		{inc, inc}, {quit, inc, inc}, {inc, quit, inc}, {inc, inc, quit},
		{quit, quit, inc, inc}, {quit, inc, quit, inc}, {inc, quit, quit, inc}, {quit, inc, quit, inc, quit}, {inc, inc, quit, quit, quit},
	} {
		s := counts(t, 40, jobs...) // nine steps for the one, three for the other
		keeps(t, s, api.WishCommit, thread(t, "take r1 @0\nadd r1 r1 1\nput @0 r1", "take r1 @0\nadd r1 r1 1\nput @0 r1"), s.Threads[1])
	}
	three := counts(t, 18, inc, inc, inc) // the third one does not begin
	keeps(t, three, api.WishCommit, []machine.Job{inc, inc}, three.Threads[1])
	unshrunk(t, counts(t, 27, inc, inc, inc), api.WishCommit, api.ErrWish)
}

// 22.3: the places are gone through from the first thread's first job on, and where one has gone the same place is looked
// at next: of several that would do, the last one is left.
func TestTheOrderOfTheJobs(t *testing.T) {
	each := thread(t, "done 1", "done 2", "done 3")
	s := script(list(0, 9, 1, 9, 2, 9), each, each, each)
	keeps(t, s, api.WishCommit, nil, each[2:], each[2:])
	s.Picks = list(2, 9, 1, 9, 0, 9)
	keeps(t, s, api.WishCommit, nil, each[2:], each[2:])
	s.Picks = list(0, 9, 1, 9, 2, 1)
	keeps(t, s, api.WishCommit, each[2:], each[2:], nil)
	s.Threads = [][]machine.Job{each, nil, each}
	s.Picks = list(0, 9, 1, 9, 2, 9)
	keeps(t, s, api.WishCommit, each[2:], nil, each[2:])
}

// A thread without jobs stays, so that the picks name whom they named.
func TestThreadsWithoutJobs(t *testing.T) {
	reads, writes := thread(t, "get r1 @0\nget r2 @0"), thread(t, "put @0 9")
	s := script(list(0, 2, 3, 4, 0, 2, 5, 7, 3, 5), thread(t, "quit", "quit"), nil, thread(t, adds, adds), reads, nil, writes)
	keeps(t, s, api.WishStale, nil, nil, nil, reads, nil, writes)
}

// A job can go only once a later one is gone: without the first job of thread 0 its second one takes object 0 and has it
// still when thread 1 wants it, which then does not come to its commit.
func TestSecondRoundOfJobs(t *testing.T) {
	s := script(list(0, 4, 1, 6, 2, 2), thread(t, "quit", "put @0 9"), thread(t, "put @0 1"), thread(t, ""))
	for _, c := range []struct {
		jobs []machine.Job
		is   bool
	}{{s.Threads[0], true}, {s.Threads[0][1:], false}, {s.Threads[0][:1], true}, {nil, true}} {
		part := s
		part.Threads = [][]machine.Job{c.jobs, s.Threads[1], s.Threads[2]}
		if is, e := shrink.Has(part, api.WishCommit); is != c.is || e != api.OK {
			t.Fatalf("%+v: Has = %v, %d", c.jobs, is, e)
		}
	}
	keeps(t, s, api.WishCommit, nil, s.Threads[1], s.Threads[2])
}

// The later one may be another thread's: without the job of thread 0 thread 1 takes the object, and thread 2 meets that one.
func TestSecondRoundOfAnotherThread(t *testing.T) {
	s := script(list(0, 4, 1, 4, 0, 2, 2, 6, 3, 2), thread(t, "put @0 9\nquit"), thread(t, "put @0 9"), thread(t, "put @0 1"), thread(t, ""))
	part := s
	part.Threads = slices.Clone(s.Threads)
	part.Threads[0] = nil
	fulfils(t, part, api.WishWait)
	part.Threads[1] = nil
	fulfils(t, part, api.WishCommit)
	keeps(t, s, api.WishCommit, part.Threads...)
}

// Programs and calls of the set side by side: the insert of thread 1 has taken the head with its thirteenth pick when thread
// 3 comes to it. Each call has a node of its own, so the objects of those that are left are others than they were.
func TestCallsOfTheSet(t *testing.T) {
	size, move := machine.Job{Kind: api.JobSize}, machine.Job{Kind: api.JobMove, Key: 3, Other: 4}
	idle := []machine.Job{size, program(t, "put @0 3"), move, {Kind: api.JobLeast}, insert(5)}
	s := script(list(1, 13, 3, 6), idle, []machine.Job{insert(5), move, program(t, adds)}, nil, []machine.Job{insert(-7), size})
	keeps(t, s, api.WishWait, nil, []machine.Job{insert(5)}, nil, []machine.Job{size})
	node := func(want, objects int) { // two numbers and the head stand ahead of the nodes
		t.Helper()
		first, e := machine.First(s)
		if put := run(t, s)[9]; !put.Puts || put.Object != want || len(first) != objects || e != api.OK {
			t.Fatalf("%+v, %d objects, %d", put, len(first), e)
		}
	}
	node(2+1+4, 2+1+8)
	s.Threads, _ = shrink.Jobs(s, api.WishWait)
	node(2+1, 2+1+2)
}

// Calls that are needed, with their keys: thread 1 stands on the node that thread 0 has put in and now takes out.
func TestCallsThatAreNeeded(t *testing.T) {
	remove, contains := machine.Job{Kind: api.JobRemove, Key: 3}, machine.Job{Kind: api.JobContains, Key: 9}
	size, move := machine.Job{Kind: api.JobSize}, machine.Job{Kind: api.JobMove, Key: -3, Other: 7}
	s := script(list(0, 16, 1, 4, 0, 22, 1, 5), []machine.Job{insert(3), remove, size}, []machine.Job{contains, program(t, "quit"), move}, []machine.Job{move})
	keeps(t, s, api.WishStale, []machine.Job{insert(3), remove}, []machine.Job{contains}, nil)
	s.Threads[1] = []machine.Job{contains, move} // that one does as well
	keeps(t, s, api.WishStale, []machine.Job{insert(3), remove}, []machine.Job{move}, nil)
}

// As many jobs as may be, of which two are needed.
func TestAsManyJobsAsMayBe(t *testing.T) {
	full := slices.Repeat(thread(t, "done 7"), api.MaxJobs)
	s := script(list(4, 1, 5, 2, 3, 1, 4, 1), full, full, full, full, full, full)
	keeps(t, s, api.WishCommit, nil, nil, nil, nil, full[:1], full[:1])
	all := []machine.Job{}
	for kind := api.JobInsert; kind < api.JobKinds; kind++ {
		all = append(all, machine.Job{Kind: kind})
	}
	s = script(list(4, 24, 5, 24), all, all, all, all, all, all)
	keeps(t, s, api.WishCommit, nil, nil, nil, nil, all[len(all)-1:], all[len(all)-1:])
}

// Each wish, with jobs that are not needed in every thread.
func TestJobsOfEachWish(t *testing.T) {
	writes, quit := "put @0 1", "quit"
	for _, c := range []struct {
		wish  int
		picks []int64
	}{
		{api.WishWait, list(0, 4, 1, 6)},
		{api.WishTimeout, list(0, 4, 1, 10)},
		{api.WishKilled, list(0, 4, 1, 11, 0, 1)},
		{api.WishLost, list(0, 3, 1, 4, 0, 1)},
		{api.WishCommit, list(0, 7, 1, 6)},
	} {
		s := script(c.picks, thread(t, writes, quit), thread(t, writes, writes, quit), thread(t, writes))
		s.Patience = 1
		keeps(t, s, c.wish, thread(t, writes), thread(t, writes), nil)
	}
}
