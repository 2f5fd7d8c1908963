package progress_test

import (
	"slices"
	"testing"

	"braid/api"
	"braid/fixture"
	"braid/history"
	"braid/machine"
	"braid/progress"
)

// skirmish gives thrown rows that are no run's, but that may stand: their attempts meet few enemies again and again.
func skirmish(d *fixture.Dice, size int) []api.Row {
	list := fixture.Rows(d, size)
	for i := range list {
		r := &list[i]
		free := r.Kind == api.RowLocal || r.Kind == api.RowPoint || r.Kind == api.RowAcquire || r.Kind == api.RowBoost
		if free && d.Below(4) > 0 { // what may stand in such a row may stand in one of these kinds too
			r.Kind = fixture.Pick(d, api.RowStatus, api.RowMine, api.RowLook, api.RowLook, api.RowUp, api.RowWait, api.RowKill, api.RowDown, api.RowDown)
		}
		if d.Below(8) > 0 && r.Kind != api.RowBegin {
			r.Enemy, r.Seen = fixture.Pick(d, 1, 1, 1, 1, 2, 0, -1), fixture.Pick[int64](d, api.Active, api.Active, api.Committed, api.Aborted)
		}
	}
	return list
}

// tally counts what conflicts were like.
type tally struct{ overs, flags [4]int }

// count counts conflicts by how they ended, and those whose last row is a RowDown.
func (n *tally) count(rows []api.Row, list []api.Clash) {
	for _, c := range list {
		n.overs[c.Over]++
		if rows[c.To].Kind == api.RowDown {
			n.flags[c.Over]++
		}
	}
}

// 21.5 and 21.6 of thrown rows that are no run's, against the words of the chapter.
func TestThrownRows(t *testing.T) {
	t.Parallel()
	d := fixture.NewDice()
	var seen tally
	whys, oldest, others := map[int]int{}, 0, 0
	for range 3000 {
		list := skirmish(&d, fixture.Pick(&d, 5, 30, 120))
		clashes, failures := plainClashes(t, list), plainFailures(t, list)
		clash(t, list, clashes...)
		fails(t, list, failures...)
		seen.count(list, clashes)
		for _, f := range failures {
			whys[f.Why]++
			if f.Oldest {
				oldest++
			}
			others += min(f.Others, 1)
		}
	}
	if slices.Min(seen.overs[:]) < 500 || seen.flags[api.OverKill] < 100 || seen.flags[api.OverGone] < 50 || seen.flags[api.OverRun]+seen.flags[api.OverEnded] > 0 {
		t.Errorf("%+v", seen)
	}
	if whys[api.EndStale] < 1000 || whys[api.EndKilled] < 1000 || oldest < 1000 || others < 200 {
		t.Errorf("%v failed, %d of them the oldest, %d with others", whys, oldest, others)
	}
}

// 21.5, 21.6 and 21.9 of the machine's runs and of their beginnings, under each manager.
func TestRuns(t *testing.T) {
	t.Parallel()
	d := fixture.NewDice()
	var seen [api.Managers]tally
	timeouts := [2]int{} // those that got over by a kill, and those in which the rows end
	for n := range 4000 {
		s := fixture.Thrown(&d, n)
		whole := run(t, s).Rows
		for _, list := range [][]api.Row{whole, whole[:d.Below(len(whole))]} {
			clashes := plainClashes(t, list)
			clash(t, list, clashes...)
			fails(t, list, plainFailures(t, list)...)
			seen[s.Manager].count(list, clashes)
			if s.Manager == api.Oracle {
				continue
			}
			for _, c := range clashes {
				patient(t, c, s.Patience)
				if c.Timeout {
					timeouts[min(1, api.OverKill-c.Over)]++
				}
			}
		}
	}
	for manager, n := range seen {
		if slices.Min(n.overs[:]) < 5 || (manager == api.Greedy) != (n.flags[api.OverKill] > 0 && n.flags[api.OverGone] > 0) {
			t.Errorf("manager %d: %+v", manager, n)
		}
	}
	if timeouts[0] < 300 || timeouts[1] < 5 {
		t.Errorf("%v timeouts", timeouts)
	}
}

// patient is 21.9 of a conflict.
func patient(t *testing.T, c api.Clash, patience int) {
	t.Helper()
	if c.Waited > patience || c.Rounds > c.Waited+1 {
		t.Fatalf("with the patience %d: %+v", patience, c)
	}
	if c.Timeout && (c.Waited != patience || c.Over != api.OverKill && c.Over != api.OverRun) {
		t.Fatalf("with the patience %d: %+v", patience, c)
	}
	if c.Over == api.OverKill && c.Rounds < 1 {
		t.Fatalf("killed without a verdict: %+v", c)
	}
}

// left is what was seen of threads that were left alone: programs and calls, those with further attempts, those without
// room.
type left struct {
	jobs, again, short int
	outcomes           [6]int
}

// leftAlone is 21.7 of a thread, and 21.2 to 21.4.
func leftAlone(t *testing.T, s machine.Script, p int, seen *left) {
	t.Helper()
	job := slices.Index(run(t, s).Answers[p], api.Answer{})
	if job < 0 {
		refused(t, s, p, api.ErrEnded)
		return
	}
	n, e := progress.Need(s, p)
	took, a, f := progress.Finish(s, p)
	if f == api.OK {
		reached(t, s, p, job, took, a)
	} else if f != api.ErrCount || took != 0 || a != (api.Answer{}) {
		t.Fatalf("Finish = %d, %+v, %d", took, a, f)
	}
	if e != api.OK {
		if n != 0 || e != api.ErrWalk || s.Threads[p][job].Kind != api.JobProgram {
			t.Fatalf("Need = %d, %d", n, e)
		}
		return
	}
	if s.Manager == api.Oracle {
		return
	}
	most := progress.Deadline(int64(n), int64(s.Patience))
	switch {
	case f == api.ErrCount && int64(len(s.Picks))+most <= api.MaxPicks, int64(took) > most:
		t.Fatalf("Need %d, Deadline %d behind %d picks, Finish %d, %d", n, most, len(s.Picks), took, f)
	case f == api.ErrCount:
		seen.short++
	}
	seen.jobs++
	seen.again += max(a.Tries-1, 0)
	seen.outcomes[a.Outcome]++
}

// reached looks that so many picks are enough, and one less is not.
func reached(t *testing.T, s machine.Script, p, job, took int, a api.Answer) {
	t.Helper()
	s.Picks = slices.Concat(s.Picks, times(took, int64(p)))
	if got := run(t, s).Answers[p][job]; took < 1 || got != a || a.Outcome == api.EndNone {
		t.Fatalf("Finish = %d, %+v; behind so many picks %+v", took, a, got)
	}
	s.Picks = s.Picks[:len(s.Picks)-1]
	if got := run(t, s).Answers[p][job]; got != (api.Answer{}) {
		t.Fatalf("Finish = %d, %+v; one pick less is enough: %+v", took, a, got)
	}
}

// 21.7: whoever is left alone is through by the Deadline.
func TestLeftAlone(t *testing.T) {
	t.Parallel()
	d := fixture.NewDice()
	var seen [api.Managers]left
	for n := range 1000 {
		s := fixture.Script(&d, n%api.Managers, fixture.Pick(&d, 10, 60, 200, 400))
		s.Patience = fixture.Pick(&d, 1, 2, 3, 8, 60)
		if n%50 > 45 { // no room is left, or little
			s.Picks = append(s.Picks, times(api.MaxPicks-len(s.Picks)-fixture.Pick(&d, 0, 1, 10, 40), -1)...)
		}
		for p := range s.Threads {
			leftAlone(t, s, p, &seen[s.Manager])
		}
	}
	short := 0
	for manager, n := range seen[:api.Oracle] {
		if n.jobs < 100 || n.again < 20 || n.outcomes[api.EndCommit] < 50 || n.outcomes[api.EndUser] == 0 || n.outcomes[api.EndBad] == 0 {
			t.Errorf("manager %d: %+v", manager, n)
		}
		short += n.short
	}
	if short < 10 {
		t.Errorf("%+v", seen)
	}
}

// 21.8: under Greedy, where nobody's patience came to its end, the oldest one fails for another one's outcome alone.
func TestTheOldest(t *testing.T) {
	t.Parallel()
	d := fixture.NewDice()
	runs, failures := 0, 0
	for range 1500 {
		s := fixture.Script(&d, api.Greedy, fixture.Pick(&d, 60, 150, 400))
		s.Patience = fixture.Pick(&d, 5, 60, api.MaxPatience)
		rows := run(t, s).Rows
		if slices.ContainsFunc(rows, func(r api.Row) bool { return r.Timeout }) {
			continue
		}
		runs++
		list, e := progress.Failures(rows)
		if e != api.OK {
			t.Fatalf("Failures = %d", e)
		}
		for _, f := range list {
			if f.Oldest && f.Others < 1 {
				t.Fatalf("%+v", f)
			}
			if f.Oldest {
				failures++
			}
		}
	}
	if runs < 500 || failures < 300 {
		t.Errorf("%d runs, the oldest one failed %d times", runs, failures)
	}
}

// 21.10: a job that has its outcome has failed once for each attempt but the last, returned or not.
func TestFailuresAndTries(t *testing.T) {
	t.Parallel()
	d := fixture.NewDice()
	jobs, again := 0, 0
	for n := range 1500 {
		r := run(t, fixture.Thrown(&d, n))
		list, e := progress.Failures(r.Rows)
		txs, f := history.Txs(r.Rows)
		if e != api.OK || f != api.OK {
			t.Fatalf("Failures = %d, Txs = %d", e, f)
		}
		for _, x := range txs {
			if x.Outcome < api.EndCommit || x.Outcome > api.EndBad {
				continue
			}
			failed := 0
			for _, f := range list {
				if f.Thread == x.Thread && f.Job == x.Job {
					failed++
				}
			}
			if a := r.Answers[x.Thread][x.Job]; failed != x.Try-1 || a.Outcome != api.EndNone && failed != a.Tries-1 {
				t.Fatalf("script %d: %d failures of %+v, which answered %+v", n, failed, x, a)
			}
			jobs++
			again += failed
		}
	}
	if jobs < 3000 || again < 500 {
		t.Errorf("%d jobs, %d failures", jobs, again)
	}
}
