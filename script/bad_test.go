package script

import (
	"errors"
	"strings"
	"testing"

	"braid/api"
	"braid/fixture"
	"braid/machine"
)

// No run of the machine is bad (W1, W2, W5), so what Judged tells of a bad one is looked at from within, by runs that are
// spoilt.

// spoilt is what the judges tell of a run in which something is otherwise: a program has committed, one has read and is
// under way, and a call of the set has put 4 in.
func spoilt(t *testing.T, spoil func(s *machine.Script, r *machine.Result)) string {
	t.Helper()
	adds := machine.Job{Program: fixture.Program(t, "get r1 @0\nadd r1 r1 1\nput @0 r1\ndone r1")}
	s := machine.Script{Objects: []int64{5}, Patience: 10, Threads: [][]machine.Job{{adds}, {adds}, {{Kind: api.JobInsert, Key: 4}, {Kind: api.JobSize}}}}
	s.Picks = append(make([]int64, 11), 1, 1, 1, 1)
	for range 40 {
		s.Picks = append(s.Picks, 2)
	}
	r, e := machine.Run(s)
	if e != api.OK || !r.Rows[3].Told || !r.Rows[8].Puts || !r.Rows[14].Told || !r.Rows[24].Puts || !r.Rows[28].Puts || !r.Answers[2][1].Yes {
		t.Fatalf("%s, %d", Trace(r.Rows), e)
	}
	spoil(&s, &r)
	return judgesText(s, r)
}

func TestBadRuns(t *testing.T) {
	for _, c := range []struct {
		what, want string
		spoil      func(s *machine.Script, r *machine.Result)
	}{
		{"nothing", "serial good, opaque good, set good, list good, keys 4", func(*machine.Script, *machine.Result) {}},
		{"other finals", "serial bad -1 -1, opaque good, set good, list good, keys 4", func(_ *machine.Script, r *machine.Result) { r.Finals[0].Num = 7 }},
		{"another answer of a program", "serial bad 0 -1, opaque good, set good, list good, keys 4", func(_ *machine.Script, r *machine.Result) { r.Answers[0][0].Result = 7 }},
		{"told otherwise", "serial bad 0 0, opaque bad 0 0, set good, list good, keys 4", func(_ *machine.Script, r *machine.Result) { r.Rows[3].Value.Num = 7 }},
		{"told otherwise at the second time", "serial bad 0 1, opaque bad 0 1, set good, list good, keys 4", func(_ *machine.Script, r *machine.Result) { r.Rows[8].Value.Num = 7 }},
		{"told otherwise without a commit", "serial good, opaque bad 1 0, set good, list good, keys 4", func(_ *machine.Script, r *machine.Result) { r.Rows[14].Value.Num = 7 }},
		{"another answer of the set", "serial good, opaque good, set bad 0, list good, keys 4", func(_ *machine.Script, r *machine.Result) { r.Answers[2][0].Yes = false }},
		{"another size", "serial good, opaque good, set bad 1, list good, keys 4", func(_ *machine.Script, r *machine.Result) { r.Answers[2][1].Result = 2 }},
		{"another key", "serial good, opaque good, set good, list bad 29, keys 9", func(s *machine.Script, _ *machine.Result) { s.Threads[2][0].Key = 9 }},
	} {
		want := strings.ReplaceAll(c.want, ", ", "\n") + "\n"
		if got := spoilt(t, c.spoil); got != want {
			t.Errorf("%s: %q, want %q", c.what, got, want)
		}
	}
}

// What a reader throws is an error of its own; what is none is not held for one.
func TestFaultsAreErrors(t *testing.T) {
	var thrown error = fault{7, api.ErrLine}
	var f fault
	if !errors.As(thrown, &f) || f.line != 7 || f.err != api.ErrLine || thrown.Error() != "line 7: error 190" {
		t.Errorf("%v", thrown)
	}
	if f := caught(errors.Join(errors.New("x"), fault{3, api.ErrExtra})); f != (fault{3, api.ErrExtra}) {
		t.Errorf("%v", f)
	}
	for _, left := range []any{"x", 7, errors.New("x"), api.ErrLine} {
		func() {
			defer func() {
				if again := recover(); again != left {
					t.Errorf("%v was thrown, %v came", left, again)
				}
			}()
			t.Errorf("%v was held for %v", left, caught(left))
		}()
	}
}
