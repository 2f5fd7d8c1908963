package intset_test

import (
	"strings"
	"testing"

	"braid/api"
	"braid/fixture"
	"braid/intset"
)

// A call that is killed, wherever that is, begins anew at its first action, and does and answers all as if it had never
// tried.
func TestKilledAnywhere(t *testing.T) {
	for _, a := range each() {
		f := lay(t)
		j := f.job(a)
		rows := f.Run(j)
		alone, _ := strings.CutPrefix(actions(rows), "begin, ")
		for at := 1; at < len(rows)-1; at++ { // not behind the commit
			f := lay(t)
			k := f.job(a)
			for range at {
				f.Step(k)
			}
			f.Killed(1)
			got := actions(f.Run(k))
			if _, rest, _ := strings.Cut(got, "killed, again, "); rest != alone {
				t.Fatalf("%v, killed behind step %d: %q, want %q", a, at, got, alone)
			}
			want := j.Answer()
			want.Tries = 2
			f.Answers(k, want)
		}
	}
}

// A call that is killed time and again begins each time anew, and tells all its attempts.
func TestKilledOften(t *testing.T) {
	for _, a := range each() {
		f := lay(t)
		j := f.job(a)
		f.Step(j)
		for try := 1; try <= 20; try++ {
			for range try % 9 {
				f.Step(j)
			}
			f.Killed(try)
			r := f.Until(j, api.RowAgain)
			if fixture.WhoseOf(r) != fixture.By(2, 5, try+1, try+1) || j.Over() || j.Answer() != (api.Answer{}) {
				t.Fatalf("%v: %+v", a, r)
			}
		}
		f.Run(j)
		g := lay(t)
		alone := g.job(a)
		g.Run(alone)
		want := alone.Answer()
		want.Tries = 21
		f.Answers(j, want)
	}
}

// What an attempt was about to answer is gone where the next one finds another list, wherever the others come between.
// Just one that has looked at all its reads for the last time answers what it found.
func TestNothingIsCarriedOver(t *testing.T) {
	for _, c := range []struct {
		ask    ask
		others []ask
		answer api.Answer
		keys   []int64
	}{
		{insert(6), []ask{insert(6)}, no(2), []int64{5, 6, 8}},
		{remove(8), []ask{remove(8)}, no(2), []int64{5}},
		{contains(8), []ask{remove(8)}, no(2), []int64{5}},
		{contains(6), []ask{insert(6)}, yes(0, 2), []int64{5, 6, 8}},
		{least(), []ask{least(), least()}, no(2), nil},
		{least(), []ask{remove(5)}, yes(8, 2), nil},
		{least(), []ask{insert(-4)}, yes(-4, 2), []int64{5, 8}},
		{size(), []ask{remove(5)}, yes(1, 2), []int64{8}},
		{size(), []ask{least(), least()}, yes(0, 2), nil},
		{size(), []ask{insert(9)}, yes(3, 2), []int64{5, 8, 9}},
		{move(8, 9), []ask{remove(8)}, no(2), []int64{5}},
		{move(8, 9), []ask{insert(9)}, no(2), []int64{5, 8, 9}},
		{move(8, 9), []ask{insert(6)}, yes(0, 2), []int64{5, 6, 9}},
	} {
		f := layOver(t, list(2, 5, 8))
		alone := f.job(c.ask)
		rows := f.Run(alone)
		met := 0
		for at := range len(rows) - 1 {
			f := layOver(t, list(2, 5, 8))
			j := f.job(c.ask)
			for range at {
				f.Step(j)
			}
			for _, other := range c.others {
				f.overtaken(other)
			}
			f.Run(j)
			want := c.answer
			if want.Tries = j.Answer().Tries; want.Tries > 1 {
				met++
			} else if at > 0 && rows[at-1].Phase == api.PhaseFinal {
				want = alone.Answer()
			}
			f.Answers(j, want)
			f.keys(c.keys...)
		}
		if met < 3 {
			t.Errorf("%v: only %d attempts failed", c.ask, met)
		}
	}
}

// The same, at one such step, row by row.
func TestStaleRows(t *testing.T) {
	f := layOver(t, list(2, 5, 8))
	j := f.job(size())
	f.told(j, 2)
	f.overtaken(remove(5))
	f.Does(j, first(),
		"final point 0;0;-1 @3 6>6", "final status 0;0;2 @12 2>2", "final quit -1;-1;-1 @9 1>3 end stale")
	f.Does(j, fixture.By(2, 5, 2, 3),
		"none again -1;-1;-1",
		"read point 0;-1;-1 @3 6>6", "read status 0;-1;2 @12 2>2", "read mine 0;0;-1 @14 1>1 tells 0,2",
		"read point 2;-1;-1 @5 2>2", "read status 2;-1;0 @1 2>2",
		"read point 0;0;-1 @3 6>6", "read status 0;0;2 @12 2>2", "read mine 2;1;-1 @14 1>1 tells 8,-1",
		"final point 0;0;-1 @3 6>6", "final status 0;0;2 @12 2>2", "final point 2;1;-1 @5 2>2", "final status 2;1;0 @1 2>2",
		"final commit -1;-1;-1 @14 1>2 end commit", "none return -1;-1;-1")
	f.Answers(j, yes(1, 2))
}

// An insert whose first attempt had put its node begins anew with that node.
func TestNodeIsPutAgain(t *testing.T) {
	f := lay(t)
	j := f.job(insert(6))
	f.told(j, 3)
	f.Killed(1)
	if got := actions(f.Run(j)); got != "killed, again, get 0, get 1, drop 0/0, get 2, put 3 6>2, put 1 5>3, commit, return" {
		t.Errorf("%q", got)
	}
	f.Answers(j, yes(0, 2))
	f.keys(5, 6, 8)
}

// Early release: what others do behind the back of a walk does not make it stale; what they do where it holds does. Size
// and move let go of nothing, so they are made stale by it.
func TestBehindTheBack(t *testing.T) {
	for _, c := range []struct {
		ask   ask
		other ask
		tries int
	}{
		{contains(20), insert(1), 1},
		{contains(20), remove(1), 1},
		{insert(15), insert(1), 1},
		{insert(15), least(), 1},
		{remove(20), insert(1), 1},
		{remove(21), move(0, 1), 1},
		{contains(20), insert(9), 2},
		{remove(20), remove(8), 2},
		{insert(15), remove(20), 2},
		{size(), insert(1), 2},
		{size(), least(), 2},
		{move(20, 21), insert(1), 2},
		{move(8, 15), least(), 2},
	} {
		f := layOver(t, list(2, 0, 5, 8, 20))
		if c.other == remove(1) {
			f = layOver(t, list(2, 1, 5, 8, 20))
		}
		j := f.job(c.ask)
		f.told(j, 4)
		f.overtaken(c.other)
		f.Run(j)
		if a := j.Answer(); a.Outcome != api.EndCommit || a.Tries != c.tries {
			t.Errorf("%v with %v behind its back: %+v, want %d tries", c.ask, c.other, a, c.tries)
		}
	}
}

// The node that goes out is written too: whoever holds it is stale, though its neighbours are not touched.
func TestDeadNodeIsWritten(t *testing.T) {
	f := layOver(t, list(2, 5, 8))
	j := f.job(insert(9)) // it holds the last node alone
	f.told(j, 2)
	f.Must(j, api.RowRelease)
	f.overtaken(remove(8))
	f.Run(j)
	f.Answers(j, yes(0, 2))
	f.keys(5, 9)
}

// Six threads side by side, under each manager: some begin anew, and the answers are a set's.
func TestManyThreads(t *testing.T) {
	d := fixture.NewDice()
	for kind := range api.Managers {
		f := layUnder(t, kind, 9, list(6, 10, 20))
		var jobs []*intset.Job
		for thread := range 6 {
			a := insert(15)
			if thread%2 == 1 {
				a = move(10, 11)
			}
			jobs = append(jobs, f.jobOf(thread, 0, a, 0, 3+thread))
		}
		agains := make([]int, 6)
		for step, left := 0, 6; left > 0; step++ {
			thread := d.Below(6)
			for range 1 + d.Below(9) {
				if jobs[thread].Over() {
					break
				}
				switch f.Step(jobs[thread]).Kind {
				case api.RowAgain:
					agains[thread]++
				case api.RowReturn:
					left--
				}
			}
			if step > 20000 {
				t.Fatalf("kind %d: no end", kind)
			}
		}
		said, sum := [2]int{}, 0
		for thread, j := range jobs {
			a := j.Answer()
			if a.Outcome != api.EndCommit || a.Result != 0 || a.Tries != 1+agains[thread] {
				t.Errorf("kind %d: thread %d answers %+v, began again %d times", kind, thread, a, agains[thread])
			}
			if a.Yes {
				said[thread%2]++
			}
			sum += agains[thread]
		}
		if said != [2]int{1, 1} || sum == 0 {
			t.Errorf("kind %d: %v said yes, %d attempts failed", kind, said, sum)
		}
		f.keys(11, 15, 20)
	}
}
