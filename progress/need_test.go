package progress_test

import (
	"math"
	"slices"
	"testing"

	"braid/api"
	"braid/lang"
	"braid/machine"
)

// Chapter 21's examples 2 and 3.
func TestScriptsOfTheChapter(t *testing.T) {
	s := script(times(3, 0), thread(program(t, one)))
	needs(t, s, 0, 4, api.OK)
	finishes(t, s, 0, 8, committed(6, 1))
	refused(t, s, 1, api.ErrThread)
	s.Picks = times(11, 0)
	refused(t, s, 0, api.ErrEnded)
	s = script(times(3, 0), thread(program(t, circle)))
	needs(t, s, 0, 0, api.ErrWalk)
	unfinished(t, s, 0, api.ErrCount)
	refused(t, script(nil, thread()), 0, api.ErrEnded)
	needs(t, script(nil, thread(insert(4))), 0, 11, api.OK)
}

// 21.3: a program needs what its longest walk goes through, whatever was walked already.
func TestNeedOfAProgram(t *testing.T) {
	for _, c := range []struct {
		text string
		n    int
	}{
		{"", 0}, {"quit", 1}, {"done 1\nx: goto x", 1}, {one, 4},
		{"get r1 @0\nif r1 == 5 e\nput @0 1\nput @0 2\ne: done r1", 5},
	} {
		s := script(nil, thread(program(t, c.text)), thread(insert(1)), thread(program(t, one), insert(2)))
		needs(t, s, 0, c.n, api.OK) // it has not begun
		s.Picks = times(2, 0)
		needs(t, s, 0, c.n, api.OK) // it is under way
	}
	s := script(nil, thread(program(t, one), program(t, "done 3")))
	for n := range 15 {
		s.Picks = times(n, 0)
		switch {
		case n < 11: // the eleventh is the return: the outcome ten steps on is no answer yet
			needs(t, s, 0, 4, api.OK)
		case n < 14:
			needs(t, s, 0, 1, api.OK)
		default:
			needs(t, s, 0, 0, api.ErrEnded)
		}
	}
}

// 21.3: a call of the set needs more, the more calls there are in the whole script, answered or not, its own among them.
func TestNeedOfACall(t *testing.T) {
	calls := []machine.Job{
		insert(3), {Kind: api.JobRemove, Key: 3}, {Kind: api.JobContains, Key: 3}, {Kind: api.JobLeast}, {Kind: api.JobSize}, {Kind: api.JobMove, Key: 3, Other: 4},
	}
	add := program(t, one)
	for _, j := range calls {
		s := script(nil, thread(j))
		needs(t, s, 0, 11, api.OK)
		s.Picks = times(2, 0)
		needs(t, s, 0, 11, api.OK)
		needs(t, script(nil, thread(add, add), thread(j), thread(add)), 1, 11, api.OK)
		needs(t, script(nil, thread(j, j), thread(add)), 0, 14, api.OK)
		needs(t, script(nil, thread(add), thread(j, add), thread(), thread(add, j, j)), 1, 17, api.OK)
		needs(t, script(nil, thread(add, j)), 0, 4, api.OK)
		needs(t, script(times(11, 0), thread(add, j)), 0, 11, api.OK)
	}
	needs(t, script(nil, calls), 0, 3*6+8, api.OK)
	needs(t, script(nil, thread(insert(1)), calls, calls), 0, 3*13+8, api.OK)
	eight := slices.Repeat(thread(insert(1)), 8)
	needs(t, script(nil, eight, eight, eight, eight, eight, eight), 5, 3*48+8, api.OK)
	s := script(nil, thread(insert(1), insert(2)))
	took := 0
	for ; took < 100 && run(t, s).Answers[0][0] == (api.Answer{}); took++ {
		needs(t, s, 0, 14, api.OK)
		s.Picks = append(s.Picks, 0)
	}
	needs(t, s, 0, 14, api.OK) // the second one, and the first is counted still
	s.Picks = append(s.Picks, times(100, 0)...)
	needs(t, s, 0, 0, api.ErrEnded)
}

// What machine.Check refuses is told ahead of a thread that there is not.
func TestRefusedScripts(t *testing.T) {
	add, bad := program(t, one), machine.Job{Program: []lang.Instr{{Code: lang.Quit, To: 1}}}
	long := machine.Job{Program: slices.Repeat([]lang.Instr{{Code: lang.Quit}}, lang.MaxCode+1)}
	fine := script(times(3, 0), thread(add), thread())
	for _, c := range []struct {
		why   api.Errno
		spoil func(s *machine.Script)
	}{
		{api.ErrObjects, func(s *machine.Script) { s.Objects = make([]int64, api.MaxMap+1) }},
		{api.ErrThreads, func(s *machine.Script) { s.Threads = nil }},
		{api.ErrThreads, func(s *machine.Script) { s.Threads = make([][]machine.Job, api.MaxThreads+1) }},
		{api.ErrJobs, func(s *machine.Script) { s.Threads = [][]machine.Job{nil, make([]machine.Job, api.MaxJobs+1)} }},
		{api.ErrJob, func(s *machine.Script) { s.Threads = [][]machine.Job{{add}, {{Kind: api.JobKinds}}} }},
		{api.ErrMany, func(s *machine.Script) { s.Threads = [][]machine.Job{{add, long}} }},
		{api.ErrCode, func(s *machine.Script) { s.Threads = [][]machine.Job{{add, bad}} }},
		{api.ErrManager, func(s *machine.Script) { s.Manager = api.Managers }},
		{api.ErrPatience, func(s *machine.Script) { s.Patience = 0 }},
		{api.ErrDraws, func(s *machine.Script) { s.Draws = make([]int64, api.MaxDraws+1) }},
		{api.ErrPicks, func(s *machine.Script) { s.Picks = make([]int64, api.MaxPicks+1) }},
		{api.ErrPicks, func(s *machine.Script) { s.Picks = make([]int64, 2*api.MaxPicks) }},
	} {
		s := fine
		c.spoil(&s)
		if e := machine.Check(s); e != c.why {
			t.Fatalf("Check = %d, want %d", e, c.why)
		}
		for _, p := range []int{0, 1, 2, 99, -1, math.MinInt, math.MaxInt} {
			refused(t, s, p, c.why)
		}
	}
	needs(t, fine, 0, 4, api.OK)
}

// A thread that there is not is told ahead of all that could be wrong with a thread.
func TestNoSuchThread(t *testing.T) {
	scripts := []machine.Script{
		script(nil, thread(program(t, one))), script(times(20, 0), thread(program(t, one))), script(nil, thread()),
		script(nil, thread(program(t, circle))), script(times(api.MaxPicks, 0), thread(insert(1))),
		script(nil, thread(), thread(), thread(program(t, one)), thread(), thread(), thread(insert(1))),
	}
	for _, s := range scripts {
		for _, p := range []int{-1, -2, len(s.Threads), len(s.Threads) + 1, 1 << 32, -1 << 32, math.MinInt, math.MaxInt} {
			refused(t, s, p, api.ErrThread)
		}
	}
	needs(t, scripts[5], 5, 11, api.OK)
	needs(t, scripts[5], 2, 4, api.OK)
}

// A thread that has nothing left to do is told ahead of what its programs are like, and of the picks.
func TestNothingUnderWay(t *testing.T) {
	full := times(api.MaxPicks, 0)
	refused(t, script(full, thread()), 0, api.ErrEnded)
	refused(t, script(full, thread(program(t, circle)), thread()), 1, api.ErrEnded)
	refused(t, script(full, thread(insert(1), program(t, one))), 0, api.ErrEnded)
	s := script(nil, thread(program(t, shortcut)))
	needs(t, s, 0, 0, api.ErrWalk)
	finishes(t, s, 0, 5, committed(1, 1))
	s.Picks = times(4, 0)
	needs(t, s, 0, 0, api.ErrWalk)
	finishes(t, s, 0, 1, committed(1, 1))
	s.Picks = times(5, 0)
	refused(t, s, 0, api.ErrEnded)
	s.Picks = full
	refused(t, s, 0, api.ErrEnded)
}

// Of the job under way alone it counts whether there is a longest walk.
func TestNoLongestWalk(t *testing.T) {
	s := script(nil, thread(program(t, one), program(t, circle), insert(1)), thread(program(t, circle)))
	needs(t, s, 0, 4, api.OK)
	s.Picks = times(10, 0)
	needs(t, s, 0, 4, api.OK)
	s.Picks = times(11, 0)
	needs(t, s, 0, 0, api.ErrWalk)
	unfinished(t, s, 0, api.ErrCount)
	s.Picks = times(api.MaxPicks, 0)
	needs(t, s, 0, 0, api.ErrWalk)
	unfinished(t, s, 0, api.ErrCount)
	needs(t, s, 1, 0, api.ErrWalk)
	unfinished(t, s, 1, api.ErrCount)
}
