package shrink_test

import (
	"slices"
	"testing"

	"braid/api"
	"braid/fixture"
	"braid/machine"
	"braid/shrink"
)

// thrown gives a script that is as short as may be shrunk, with few objects, so that its threads meet.
func thrown(t *testing.T, d *fixture.Dice, manager int) machine.Script {
	t.Helper()
	picks := fixture.Pick(d, 24, 36, api.MaxShrink, api.MaxShrink)
	if d.Below(6) == 0 {
		return fixture.Script(d, manager, picks)
	}
	s := machine.Script{
		Objects: make([]int64, 1+d.Below(2)), Threads: make([][]machine.Job, 2+d.Below(2)),
		Manager: manager, Patience: fixture.Pick(d, 1, 1, 1, 2, 10), Draws: fixture.Draws(d, d.Below(10)),
	}
	for p := range s.Threads {
		for range fixture.Pick(d, 0, 1, 1, 2, 3) {
			s.Threads[p] = append(s.Threads[p], short(t, d))
		}
	}
	s.Picks = fixture.Picks(d, len(s.Threads), picks)
	return s
}

// aimed throws scripts until one has a wish, but not for ever.
func aimed(t *testing.T, d *fixture.Dice, manager, wish int) machine.Script {
	t.Helper()
	s := thrown(t, d, manager)
	for range 60 {
		if reached(run(t, s), wish) >= 0 {
			break
		}
		s = thrown(t, d, manager)
	}
	return s
}

// short is a job of few steps.
func short(t *testing.T, d *fixture.Dice) machine.Job {
	t.Helper()
	if d.Below(6) == 0 {
		return fixture.Call(d)
	}
	return program(t, fixture.Pick(d, "", "quit", "put @0 1", "put @0 1", "put @0 1\nlet r1 1\nlet r2 1\nlet r3 1", "get r1 @0\nget r2 @0",
		"get r1 @0\nput @0 2", "put @1 1\nput @0 1", "put @0 1\nput @1 1", "get r1 @0\nput @1 1", "get r1 @1\nput @0 1", "put @0 1\nquit"))
}

// seen is what plays of one manager had of one wish.
type seen struct{ had, picks, jobs, picksAgain, jobsAgain int }

// count counts what has gone, and where something could go only once something later had gone.
func (n *seen) count(picks, jobs, pickRounds, jobRounds int) {
	n.had++
	n.picks += picks
	n.jobs += jobs
	if pickRounds > 2 {
		n.picksAgain++
	}
	if jobRounds > 2 {
		n.jobsAgain++
	}
}

func jobsOf(threads [][]machine.Job) int { return len(slices.Concat(threads...)) }

// The three calls on thrown scripts, under each manager, against the words of the chapter.
func TestThrownScripts(t *testing.T) {
	t.Parallel()
	for manager := range api.Managers {
		t.Run("", func(t *testing.T) {
			t.Parallel()
			thrownScripts(t, manager)
		})
	}
}

func thrownScripts(t *testing.T, manager int) {
	t.Helper()
	d := fixture.NewDice()
	var all [api.Wishes]seen
	for n := range 200 {
		s := aimed(t, &d, manager, n%api.Wishes)
		rows := run(t, s)
		for wish := range api.Wishes {
			if is, e := shrink.Has(s, wish); is != (reached(rows, wish) >= 0) || e != api.OK {
				t.Fatalf("script %d: Has(%d) = %v, %d", n, wish, is, e)
			} else if !is {
				unshrunk(t, s, wish, api.ErrWish)
				continue
			}
			picks, pickRounds := plainPicks(t, s, wish)
			needs(t, s, wish, picks...)
			threads, jobRounds := plainJobs(t, s, wish)
			keeps(t, s, wish, threads...)
			all[wish].count(len(s.Picks)-len(picks), jobsOf(s.Threads)-jobsOf(threads), pickRounds, jobRounds)
		}
	}
	picksAgain, jobsAgain := 0, 0
	for wish, n := range all {
		if wish == api.WishTimeout && manager == api.Oracle {
			if n.had > 0 {
				t.Errorf("Oracle has no patience to lose: %+v", n)
			}
			continue
		}
		if n.had < 15 || n.picks < 10*n.had || n.jobs < n.had {
			t.Errorf("wish %d: %+v", wish, n)
		}
		picksAgain += n.picksAgain
		jobsAgain += n.jobsAgain
	}
	if picksAgain < 3 || jobsAgain < 2 {
		t.Errorf("%+v", all)
	}
}

// 22.1 of long runs.
func TestLongRuns(t *testing.T) {
	t.Parallel()
	d := fixture.NewDice()
	var had [api.Wishes][2]int
	for n := range 600 {
		s := fixture.Thrown(&d, n)
		rows := run(t, s)
		for wish := range api.Wishes {
			want := 0
			if reached(rows, wish) >= 0 {
				want = 1
			}
			if is, e := shrink.Has(s, wish); is != (want == 1) || e != api.OK {
				t.Fatalf("script %d: Has(%d) = %v, %d", n, wish, is, e)
			}
			had[wish][want]++
		}
	}
	for wish, n := range had {
		if min(n[0], n[1]) < 20 {
			t.Errorf("wish %d: %v", wish, n)
		}
	}
}

// 22.5 to 22.7 of thrown scripts, by what they say alone.
func TestWhatHolds(t *testing.T) {
	t.Parallel()
	d := fixture.NewDice()
	d.Roll() // other scripts than those above
	for manager := range api.Managers {
		shrunk := 0
		for n := range 60 {
			s := aimed(t, &d, manager, n%api.Wishes)
			for wish := range api.Wishes {
				if is, _ := shrink.Has(s, wish); is {
					holdsOfPicks(t, s, wish)
					holdsOfJobs(t, s, wish)
					shrunk++
				}
			}
		}
		if shrunk < 50 {
			t.Errorf("manager %d: %d scripts", manager, shrunk)
		}
	}
}

func lacks(t *testing.T, s machine.Script, wish int) {
	t.Helper()
	if is, e := shrink.Has(s, wish); is || e != api.OK {
		t.Fatalf("wish %d of %+v: Has = %v, %d", wish, s, is, e)
	}
}

func holdsOfPicks(t *testing.T, s machine.Script, wish int) {
	t.Helper()
	left, e := shrink.Picks(s, wish)
	if e != api.OK || !within(left, s.Picks, func(a, b int64) bool { return a == b }) {
		t.Fatalf("Picks(%d) = %v, %d of %v", wish, left, e, s.Picks)
	}
	s.Picks = left
	rows := run(t, s)
	if reached(rows, wish) != len(left)-1 || slices.ContainsFunc(rows, func(r api.Row) bool { return r.Kind == api.RowStutter }) {
		t.Fatalf("Picks(%d) = %v: %+v", wish, left, rows)
	}
	for place := range left {
		s.Picks = slices.Delete(slices.Clone(left), place, place+1)
		lacks(t, s, wish)
	}
}

func holdsOfJobs(t *testing.T, s machine.Script, wish int) {
	t.Helper()
	left, e := shrink.Jobs(s, wish)
	if e != api.OK || len(left) != len(s.Threads) {
		t.Fatalf("Jobs(%d) = %+v, %d", wish, left, e)
	}
	same := func(a, b machine.Job) bool { return sameThreads([][]machine.Job{{a}}, [][]machine.Job{{b}}) }
	for p, jobs := range left {
		if !within(jobs, s.Threads[p], same) {
			t.Fatalf("Jobs(%d) = %+v of %+v", wish, left, s.Threads)
		}
	}
	if s.Threads = left; !plainHas(t, s, wish) {
		t.Fatalf("Jobs(%d) = %+v", wish, left)
	}
	for p, jobs := range left {
		for place := range jobs {
			s.Threads = slices.Clone(left)
			s.Threads[p] = slices.Delete(slices.Clone(jobs), place, place+1)
			lacks(t, s, wish)
		}
	}
}

// within tells whether a list is another one without some of it.
func within[T any](part, whole []T, same func(a, b T) bool) bool {
	for _, x := range whole {
		if len(part) > 0 && same(part[0], x) {
			part = part[1:]
		}
	}
	return len(part) == 0
}
