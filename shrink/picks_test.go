package shrink_test

import (
	"math"
	"slices"
	"testing"

	"braid/api"
	"braid/machine"
	"braid/shrink"
)

// overtaken is the script of the chapter's example 3: thread 0 has read what thread 1 then writes.
func overtaken(t *testing.T) machine.Script {
	t.Helper()
	s := script(list(0, 4, 1, 7, 0, 5), thread(t, "get r1 @0\nget r2 @0"), thread(t, "put @0 9"))
	s.Objects = []int64{5}
	return s
}

// The chapter's examples 2 and 3.
func TestPicksOfTheChapter(t *testing.T) {
	two := script(list(0, 2, 7, 1, 0, 1, 1, 3), thread(t, ""), thread(t, ""))
	fulfils(t, two, api.WishCommit)
	needs(t, two, api.WishCommit, 0, 0, 1, 1)
	three := overtaken(t)
	fulfils(t, three, api.WishStale)
	needs(t, three, api.WishStale, list(0, 3, 1, 6, 0, 5)...)
}

// Where nothing can go all stay.
func TestNothingGoes(t *testing.T) {
	s := script(list(0, 3, 1, 6, 0, 5), overtaken(t).Threads...)
	needs(t, s, api.WishStale, s.Picks...)
	both := thread(t, "put @0 1")
	needs(t, script(list(0, 3, 1, 4, 0, 1), both, both), api.WishLost, list(0, 3, 1, 4, 0, 1)...)
	for _, picks := range [][]int64{{0, 0, 1, 1}, {0, 1, 0, 1}, {0, 1, 1, 0}, {1, 0, 0, 1}, {1, 1, 0, 0}} {
		needs(t, script(picks, thread(t, ""), thread(t, "")), api.WishCommit, picks...)
	}
}

// As many as may be, of which all go but those that are needed.
func TestAllButTheNeeded(t *testing.T) {
	jobs := thread(t, "", "", "", "", "", "")
	needs(t, script(list(0, 18, 1, 12, 2, 18), jobs, jobs, jobs), api.WishCommit, 1, 1, 2, 2)
	needs(t, script(list(0, 18, 1, 29, 2, 1), jobs, jobs, jobs), api.WishCommit, 0, 0, 1, 1)
	needs(t, script(list(0, 46, 1, 2), jobs, jobs, jobs), api.WishCommit, 0, 0, 1, 1)
	needs(t, script(list(2, 1, 0, 46, 2, 1), jobs, jobs, jobs), api.WishCommit, 2, 0, 0, 2)
}

// 22.2: the places are gone through from 0 on, and where one has gone the same place is looked at next.
func TestTheOrderOfThePlaces(t *testing.T) {
	empty := thread(t, "")
	for _, c := range []struct{ picks, want []int64 }{
		{[]int64{0, 1, 1, 0, 0, 1}, []int64{1, 0, 0, 1}},    // from the end: 0 1 1 0
		{[]int64{0, 0, 1, 1, 0, 0, 1}, []int64{1, 0, 0, 1}}, // a place further on: 0 1 0 1
		{[]int64{0, 0, 0, 1, 1, 1, 0, 1}, []int64{0, 1, 0, 1}},
		{[]int64{0, 1, 0, 1, 0, 1, 0, 1}, []int64{0, 1, 0, 1}},
		{[]int64{1, 0, 0, 0, 1, 1, 0}, []int64{0, 1, 1, 0}},
		{[]int64{0, 0, 0, 2, 2, 1, 1}, []int64{2, 2, 1, 1}},
	} {
		needs(t, script(c.picks, empty, empty, empty), api.WishCommit, c.want...)
	}
}

// Picks that name nobody go, wherever they stand; so do those of threads without jobs, and of threads that are through.
func TestNobodysPicks(t *testing.T) {
	s := script(nil, thread(t, ""), thread(t, ""), nil)
	for _, nobody := range []int64{-1, 2, 3, 6, 99, 1 << 32, -1 << 32, math.MinInt64, math.MaxInt64} {
		for place := range 5 {
			picks := []int64{0, 1, 0, 1}
			s.Picks = slices.Insert(slices.Clone(picks), place, nobody, nobody)
			needs(t, s, api.WishCommit, picks...)
		}
		s.Picks = []int64{nobody, 0, nobody, 0, nobody, nobody, 1, nobody, 1, nobody}
		needs(t, s, api.WishCommit, 0, 0, 1, 1)
	}
	s.Picks = list(0, 20, 1, 2) // it has returned with its third pick
	needs(t, s, api.WishCommit, 0, 0, 1, 1)
	s.Picks = list(0, 3, 1, 1, 0, 20, 1, 1)
	needs(t, s, api.WishCommit, 1, 0, 0, 1)
}

// 22.7: what stands behind the row by which the wish is fulfilled goes, whosever it is.
func TestPicksBehindIt(t *testing.T) {
	s := overtaken(t)
	s.Threads = append(s.Threads, thread(t, adds))
	s.Picks = list(0, 3, 1, 6, 0, 5)
	for _, behind := range [][]int64{{1}, {2}, {-1}, {1, 2, 3, 1}, list(2, 11, 1, 4), list(1, 30)} {
		more := s
		more.Picks = slices.Concat(s.Picks, behind)
		needs(t, more, api.WishStale, s.Picks...)
	}
	s.Picks = append(s.Picks, 0) // that one quits instead, so the first one may go (it stands ahead, and is looked at ahead)
	needs(t, s, api.WishStale, list(0, 2, 1, 6, 0, 6)...)
}

// Each wish, with picks that are not needed ahead, between and behind; the lists by hand.
func TestPicksOfEachWish(t *testing.T) {
	writes := thread(t, "put @0 1")
	spare := list(0, 5, 2, 3, 1, 12, 0, 2, 2, 3)
	for _, c := range []struct {
		wish  int
		picks []int64
		want  []int64
	}{
		{api.WishWait, spare, list(0, 4, 1, 6)},     // it owns; point, status, mine, look, wait
		{api.WishTimeout, spare, list(0, 4, 1, 10)}, // wait, then point, status, mine, look
		{api.WishKilled, list(0, 5, 2, 3, 1, 11, 0, 2, 2, 3), list(0, 4, 1, 11, 0, 1)},
		{api.WishLost, list(0, 3, 2, 3, 1, 5, 0, 2, 2, 3), list(0, 2, 1, 4, 0, 2)}, // RowStatus may come behind, too
		{api.WishCommit, list(0, 7, 2, 1, 1, 7, 2, 2), list(0, 6, 2, 2)},           // with one less of thread 0, thread 1 meets it and does not commit
	} {
		s := script(c.picks, writes, writes, thread(t, "get r1 @1"))
		s.Patience = 1
		if c.wish == api.WishCommit {
			s.Threads[2] = thread(t, "")
		}
		needs(t, s, c.wish, c.want...)
	}
}

// A pick can go only once a later one is gone. Threads 0 and 1 each take object 0 with their fourth pick and give it up with
// their sixth one, and thread 1 aborts whom it meets. With one pick less thread 0 has the object still: then the nine picks
// of thread 1 are an abort and an object of its own, which thread 2 meets; six of them are the abort alone.
func TestSecondRound(t *testing.T) {
	gives := thread(t, "put @0 9\nquit")
	s := script(nil, gives, gives, thread(t, "put @0 1"), thread(t, ""))
	s.Manager = api.Oracle // without draws it aborts, always; thread 2 has no picks for that
	for _, c := range []struct {
		first, second int64
		is            bool
	}{
		{6, 9, true}, {5, 9, false}, {6, 8, true}, {6, 7, true}, {6, 6, true}, {6, 5, false}, // the first round
		{5, 6, true}, {4, 6, true}, {3, 6, true}, {2, 6, true}, {1, 6, true}, {0, 6, true}, {0, 5, false}, // the second one
	} {
		s.Picks = list(0, c.first, 1, c.second, 2, 6, 3, 2)
		if is, e := shrink.Has(s, api.WishCommit); is != c.is || e != api.OK {
			t.Fatalf("%d and %d picks: Has = %v, %d", c.first, c.second, is, e)
		}
	}
	s.Picks = list(0, 6, 1, 9, 2, 6, 3, 2)
	needs(t, s, api.WishCommit, list(1, 6, 2, 6, 3, 2)...)
}

// The script that README.md shows: three threads in turns, the third one in nobody's way.
func TestRace(t *testing.T) {
	s := script(slices.Repeat([]int64{0, 1, 2}, 16), thread(t, adds), thread(t, adds), []machine.Job{insert(4)})
	s.Objects = []int64{5}
	needs(t, s, api.WishLost, turns(16)...)
	keeps(t, s, api.WishLost, s.Threads[0], s.Threads[1], nil)
}
