package sweep

import (
	"testing"

	"braid/api"
	"braid/fixture"
	"braid/judge"
	"braid/machine"
)

// No run of the machine is bad (18.6), so what a bad one counts is looked at from within, by runs that are spoilt.

// spoilt is the run of a program that has committed beside one that has read and is under way, with something otherwise.
func spoilt(t *testing.T, spoil func(s *machine.Script, r *machine.Result)) (machine.Script, machine.Result) {
	t.Helper()
	adds := machine.Job{Program: fixture.Program(t, "get r1 @0\nadd r1 r1 1\nput @0 r1\ndone r1")}
	s := machine.Script{Objects: []int64{5}, Threads: [][]machine.Job{{adds}, {adds}}, Patience: 10}
	s.Picks = append(make([]int64, 11), 1, 1, 1, 1)
	r, e := machine.Run(s)
	if e != api.OK || !r.Rows[3].Told || !r.Rows[8].Puts || !r.Rows[14].Told {
		t.Fatalf("%+v, %d", r.Rows, e)
	}
	spoil(&s, &r)
	return s, r
}

func TestBadRuns(t *testing.T) {
	for _, c := range []struct {
		what           string
		serial, opaque bool
		spoil          func(s *machine.Script, r *machine.Result)
	}{
		{"nothing", true, true, func(*machine.Script, *machine.Result) {}},
		{"another put, which fits the one behind it", false, true, func(_ *machine.Script, r *machine.Result) {
			r.Rows[8].Put.Num, r.Rows[14].Value.Num, r.Finals[0].Num = 7, 7, 7
		}},
		{"another answer", false, true, func(_ *machine.Script, r *machine.Result) { r.Answers[0][0].Result = 7 }},
		{"other finals", false, true, func(_ *machine.Script, r *machine.Result) { r.Finals[0].Num = 7 }},
		{"told otherwise without a commit", true, false, func(_ *machine.Script, r *machine.Result) { r.Rows[14].Value.Num = 5 }},
		{"told otherwise with one", false, false, func(_ *machine.Script, r *machine.Result) { r.Rows[3].Value.Num = 4 }},
		{"what Serial refuses", false, true, func(_ *machine.Script, r *machine.Result) { r.Finals = nil }},
		{"a script that Serial refuses", false, true, func(s *machine.Script, _ *machine.Result) { s.Picks[12] = 0 }},
		{"what both refuse", false, false, func(_ *machine.Script, r *machine.Result) { r.Rows[14].Try = 9 }},
	} {
		s, r := spoilt(t, c.spoil)
		first, _ := machine.First(s)
		serial, _ := judge.Serial(s, r)
		opaque, _ := judge.Opaque(first, r.Rows)
		if serial.Good != c.serial || opaque.Good != c.opaque {
			t.Fatalf("%s: %+v, %+v", c.what, serial, opaque)
		}
		if got, want := bad(s, r), !c.serial || !c.opaque; got != want {
			t.Errorf("%s: bad is %v", c.what, got)
		}
	}
}

// Each count of a tally is added to its own, and Most is the greatest, of which the first stays.
func TestTogether(t *testing.T) {
	var sum api.Tally
	for _, run := range []api.Tally{
		{Runs: 1, Commits: 2, Retries: 3, Timeouts: 5, Unfinished: 7, Bad: 1, Most: 3, Worst: []int64{1}},
		{Runs: 1, Commits: 10, Retries: 20, Timeouts: 30, Unfinished: 40, Most: 20, Worst: []int64{2}},
		{Runs: 1, Commits: 100, Retries: 20, Timeouts: 300, Unfinished: 400, Bad: 1, Most: 20, Worst: []int64{3}},
		{Runs: 1, Commits: 1000, Timeouts: 3000, Unfinished: 4000, Bad: 1, Worst: []int64{4}},
	} {
		sum = together(sum, run)
	}
	if sum.Runs != 4 || sum.Commits != 1112 || sum.Retries != 43 || sum.Timeouts != 3335 || sum.Unfinished != 4447 ||
		sum.Bad != 3 || sum.Most != 20 || len(sum.Worst) != 1 || sum.Worst[0] != 2 {
		t.Errorf("%+v", sum)
	}
}
