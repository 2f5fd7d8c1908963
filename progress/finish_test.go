package progress_test

import (
	"slices"
	"testing"

	"braid/api"
	"braid/machine"
	"braid/progress"
)

// 21.4: the further the script's own picks are, the less is to be taken; the last of it is the return alone.
func TestFinishFromAnywhere(t *testing.T) {
	for n := range 11 {
		finishes(t, script(times(n, 0), thread(program(t, one))), 0, 11-n, committed(6, 1))
	}
	three := thread(program(t, one), program(t, "quit"), program(t, one))
	s := script(nil, three)
	for n, want := range []int{11: 3, 12: 2, 13: 1, 14: 11, 15: 10, 24: 1} {
		switch s.Picks = times(n, 0); {
		case want == 0:
		case n < 14: // the second job alone, not the third one behind it
			finishes(t, s, 0, want, api.Answer{Outcome: api.EndUser, Tries: 1})
		default:
			finishes(t, s, 0, want, committed(7, 1))
		}
	}
	s.Picks = times(25, 0)
	unfinished(t, s, 0, api.ErrEnded)
}

// Each outcome, of programs and of calls of the set.
func TestFinishOfEachOutcome(t *testing.T) {
	for _, c := range []struct {
		job    machine.Job
		took   int
		answer api.Answer
	}{
		{program(t, ""), 3, committed(0, 1)},
		{program(t, "done -7"), 3, committed(-7, 1)},
		{program(t, "quit"), 3, api.Answer{Outcome: api.EndUser, Tries: 1}},
		{program(t, "get r1 @7"), 3, api.Answer{Outcome: api.EndBad, Tries: 1}},
		{program(t, "put @0 9\nget r1 @-1"), 7, api.Answer{Outcome: api.EndBad, Tries: 1}},
		{machine.Job{Kind: api.JobContains, Key: 3}, 0, committed(0, 1)},
		{insert(3), 0, api.Answer{Outcome: api.EndCommit, Yes: true, Tries: 1}},
	} {
		s := script([]int64{-1, 1, 0}, thread(c.job), thread(program(t, one)))
		n, a, e := progress.Finish(s, 0)
		want, answer := plainFinish(t, s, 0)
		if n != want || a != answer || a != c.answer || e != api.OK || c.took > 0 && n != c.took-1 {
			t.Errorf("%+v: Finish = %d, %+v, %d, want %d, %+v", c.job, n, a, e, want, answer)
		}
	}
}

// plainFinish runs the whole script again for each further pick.
func plainFinish(t *testing.T, s machine.Script, thread int) (int, api.Answer) {
	t.Helper()
	s.Picks = slices.Clone(s.Picks)
	job := slices.Index(run(t, s).Answers[thread], api.Answer{})
	for n := 1; len(s.Picks) < api.MaxPicks; n++ {
		s.Picks = append(s.Picks, int64(thread))
		if a := run(t, s).Answers[thread][job]; a != (api.Answer{}) {
			return n, a
		}
	}
	t.Fatalf("thread %d's job %d has no answer", thread, job)
	return 0, api.Answer{}
}

// held is a script in which thread 0 has taken object 0 and goes on in a circle, and thread 1 wants it.
func held(t *testing.T, manager int, picks ...int64) machine.Script {
	t.Helper()
	s := script(append(times(5, 0), picks...), thread(program(t, "put @0 9\nx: goto x")), thread(program(t, one)))
	s.Manager, s.Patience = manager, 9
	return s
}

// From each place in the midst of a conflict, under each manager.
func TestFinishInAConflict(t *testing.T) {
	for manager := range api.Managers {
		whole, answer := plainFinish(t, held(t, manager), 1)
		if answer != committed(6, 1) || whole <= 15 {
			t.Fatalf("manager %d: %d, %+v", manager, whole, answer)
		}
		for n := range whole {
			s := held(t, manager, times(n, 1)...)
			finishes(t, s, 1, whole-n, answer)
			needs(t, s, 1, 4, api.OK)
			needs(t, s, 0, 0, api.ErrWalk)
		}
		refused(t, held(t, manager, times(whole, 1)...), 1, api.ErrEnded)
	}
}

// One that was aborted by another one begins anew, and its answer tells so.
func TestFinishOfOneThatWasKilled(t *testing.T) {
	s := script(append(times(9, 0), times(12, 1)...), thread(program(t, one)), thread(program(t, one)))
	s.Manager = api.Oracle
	n, a, e := progress.Finish(s, 0)
	want, answer := plainFinish(t, s, 0)
	if n != want || a != answer || e != api.OK || a.Tries != 2 || a.Result != 6 {
		t.Errorf("Finish = %d, %+v, %d, want %d, %+v", n, a, e, want, answer)
	}
}

// What is left of the picks is just enough, or is one too few.
func TestFinishAtTheLastPick(t *testing.T) {
	s := script(times(api.MaxPicks-11, -1), thread(program(t, one)), thread(program(t, circle)))
	finishes(t, s, 0, 11, committed(6, 1))
	s.Picks = times(api.MaxPicks-10, 1)
	unfinished(t, s, 0, api.ErrCount)
	s.Picks = append(times(10, 0), times(api.MaxPicks-11, 99)...)
	finishes(t, s, 0, 1, committed(6, 1))
	s.Picks = append(s.Picks, 1)
	unfinished(t, s, 0, api.ErrCount)
	needs(t, s, 0, 4, api.OK)
	s.Picks = append(times(api.MaxPicks-1, 1), 0)
	unfinished(t, s, 0, api.ErrCount)
	s.Picks = nil
	unfinished(t, s, 1, api.ErrCount)
}
