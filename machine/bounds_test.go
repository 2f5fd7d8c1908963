package machine_test

import (
	"slices"
	"testing"

	"braid/api"
	"braid/fixture"
	"braid/lang"
	"braid/machine"
	"braid/model"
)

// within is W3's B.
func within(n, patience int) int { return n*(5*patience+2*n+12) + 2 }

// fromAnywhere is W3's D.
func fromAnywhere(n, patience int) int { return 2*(n+1)*(10*patience+2*n+26) + 8 }

// patient is a thrown script under another manager than Oracle, with a patience with which the bounds are few steps.
func patient(d *fixture.Dice, n int) machine.Script {
	s := fixture.Script(d, n%api.Oracle, 20+d.Below(200))
	s.Patience = fixture.Pick(d, 1, 2, 3, 5, 8)
	return s
}

// W3: an attempt that is left alone from its begin on reaches the outcome of a run alone, in so many steps.
func TestLeftAlone(t *testing.T) {
	t.Parallel()
	d := fixture.NewDice()
	seen, contested, outcomes := 0, 0, map[int]int{}
	for n := range 2500 {
		w := watch(t, patient(&d, n))
		for _, a := range w.attempts {
			if d.Below(4) != 0 || w.jobOf(a).Kind != api.JobProgram {
				continue
			}
			alone, e := model.Run(w.jobOf(a).Program, w.numbers(w.at(a.begin-1)), nil, 40)
			if e != api.OK {
				t.Fatalf("model.Run = %d", e)
			}
			b := within(alone.Count, w.s.Patience)
			if alone.Outcome == api.EndNone || a.begin+b >= api.MaxPicks {
				continue
			}
			if looks := leftAlone(t, w, a, alone, b); looks > 0 {
				contested++
			}
			seen++
			outcomes[alone.Outcome]++
		}
	}
	if seen < 2000 || contested < 200 || outcomes[api.EndCommit] < 500 || outcomes[api.EndUser] < 50 || outcomes[api.EndBad] < 50 {
		t.Errorf("%d attempts were left alone, %d of them were hindered: %v", seen, contested, outcomes)
	}
}

// leftAlone picks the thread of an attempt alone from its begin on, and answers how many verdicts stand ahead of its
// outcome.
func leftAlone(t *testing.T, w *watched, a *attempt, alone api.Alone, most int) int {
	t.Helper()
	s := w.s
	s.Picks = slices.Concat(s.Picks[:a.begin+1], times(most, int64(a.thread)))
	r, looks := run(t, s), 0
	for _, row := range r.Rows[a.begin : a.begin+most] {
		if row.Kind == api.RowLook {
			looks++
		}
		if row.End == api.EndNone {
			continue
		}
		if row.End != alone.Outcome || row.Attempt != a.rows[0].Attempt {
			t.Fatalf("%q, want an outcome in attempt %d: %+v", line(row), a.rows[0].Attempt, alone)
		}
		want := api.Answer{Outcome: alone.Outcome, Result: alone.Result, Tries: row.Try}
		if got := r.Answers[a.thread][a.job]; got != want {
			t.Fatalf("answers %+v, want %+v", got, want)
		}
		return looks
	}
	t.Fatalf("no outcome within %d steps from step %d on", most, a.begin)
	return 0
}

// W3: a thread that is left alone anywhere has its job answered in so many steps.
func TestLeftAloneAnywhere(t *testing.T) {
	t.Parallel()
	d := fixture.NewDice()
	seen, again := [2]int{}, 0
	for n := range 3000 {
		s := patient(&d, n)
		if d.Below(2) == 0 {
			few(s.Threads, 4)
			s.Patience = 1
		}
		from, p := d.Below(len(s.Picks)), d.Below(len(s.Threads))
		ahead := s
		ahead.Picks = s.Picks[:from]
		job := slices.Index(run(t, ahead).Answers[p], api.Answer{})
		if job < 0 {
			continue
		}
		j := s.Threads[p][job]
		size := 3*count(s.Threads) + 8
		if j.Kind == api.JobProgram {
			var e api.Errno
			if size, e = lang.Longest(j.Program); e != api.OK {
				continue
			}
		}
		most := fromAnywhere(size, s.Patience)
		if from+most > api.MaxPicks {
			continue
		}
		s.Picks = slices.Concat(s.Picks[:from], times(most, int64(p)))
		a := run(t, s).Answers[p][job]
		if a == (api.Answer{}) {
			t.Fatalf("script %d: no answer within %d steps from step %d on", n, most, from)
		}
		seen[min(j.Kind, 1)]++
		again += a.Tries - 1
	}
	if seen[0] < 300 || seen[1] < 300 || again < 30 {
		t.Errorf("%d programs and %d calls were left alone, with %d attempts more", seen[0], seen[1], again)
	}
}

func count(threads [][]machine.Job) int {
	n := 0
	for _, jobs := range threads {
		for _, j := range jobs {
			n += min(j.Kind, 1)
		}
	}
	return n
}

// few turns all calls of the set but so many into programs.
func few(threads [][]machine.Job, most int) {
	for _, jobs := range threads {
		for i, j := range jobs {
			if most -= min(j.Kind, 1); most < 0 {
				jobs[i] = machine.Job{}
			}
		}
	}
}

// One that takes five objects that five others own who go on no more, under each manager.
func TestLeftAloneAmongEnemies(t *testing.T) {
	texts := []string{"take r1 @0\ntake r2 @1\ntake r3 @2\ntake r4 @3\ntake r5 @4\ndone 9"}
	for _, x := range []string{"0", "1", "2", "3", "4"} {
		texts = append(texts, "put @"+x+" 1\nget r1 @"+x)
	}
	for manager := range api.Oracle {
		for _, patience := range []int{1, 2, 3, 8, 30} {
			s := machine.Script{Objects: make([]int64, 5), Threads: programs(t, texts...), Manager: manager, Patience: patience, Draws: make([]int64, 200)}
			for p := range int64(5) {
				s.Picks = append(s.Picks, times(5, p+1)...)
			}
			s.Picks = append(s.Picks, times(within(6, patience), 0)...)
			r := run(t, s)
			if got := r.Answers[0][0]; got != commit(9, 1) {
				t.Errorf("manager %d, patience %d: %+v", manager, patience, got)
			}
		}
	}
}
