package interp_test

import (
	"strconv"
	"strings"
	"testing"

	"braid/api"
	"braid/fixture"
	"braid/interp"
	"braid/lang"
)

// A stale attempt stays at the instruction at which it failed until the next one begins: at the end, at an open.
func TestStale(t *testing.T) {
	f := lay(t, api.Polite, 5)
	j := f.job("get r1 @0\nadd r1 r1 1\nput @1 r1\ndone r1")
	f.Until(j, api.RowAcquire)
	f.Until(j, api.RowMine)
	f.overtaken(0, 70)
	f.Does(j, first, "final point 0;0;-1 @3 3>3 | 3", "final status 0;0;2 @9 2>2 | 3",
		"final quit -1;-1;-1 @6 1>3 end stale | 3")
	second := fixture.By(2, 5, 2, 3)
	f.Does(j, second, "none again -1;-1;-1 | 0",
		"read point 0;-1;-1 @3 3>3 | 0", "read status 0;-1;2 @9 2>2 | 0", "read mine 0;0;-1 @11 1>1 tells 70 | 1",
		"none local -1;-1;-1 | 2", "write point 1;-1;-1 @4 2>2 | 2", "write status 1;-1;1 @6 3>3 | 2")
	f.overtaken(0, 90)
	f.Does(j, second, "write acquire 1;-1;-1 @4 2>5 | 2", "write point 0;0;-1 @3 4>4 | 2",
		"write status 0;0;4 @14 2>2 | 2", "write quit -1;-1;-1 @11 1>3 end stale | 2")
	f.Does(j, fixture.By(2, 5, 3, 5), "none again -1;-1;-1 | 0")
	f.Run(j)
	f.answers(j, 3, api.EndCommit, 91, 3)
	f.committed(90, 91)
}

// A killed attempt finds it out at an open, at the end, at a quit and at a bad object, and the next one does it all
// again; what goes on without an access does not find it out.
func TestKilled(t *testing.T) {
	for _, c := range []struct {
		text    string
		lines   []string
		place   int
		outcome int
		result  int64
	}{
		{"get r1 @0\ndone r1", []string{"read point 0;-1;-1 @3 0>0 | 0", "read status 0;-1;0 @1 2>2 | 0",
			"read mine 0;-1;-1 @6 3>3 end killed | 0"}, 1, api.EndCommit, 7},
		{"put @0 6\ndone 5", []string{"write point 0;-1;-1 @3 0>0 | 0", "write status 0;-1;0 @1 2>2 | 0",
			"write acquire 0;-1;-1 @3 0>2 | 0", "write mine 0;-1;-1 @6 3>3 end killed | 0"}, 1, api.EndCommit, 5},
		{"let r1 4\ndone r1", []string{"none local -1;-1;-1 | 1", "final commit -1;-1;-1 @6 3>3 lost end killed | 1"}, 1, api.EndCommit, 4},
		{"drop @1\nlet r2 5", []string{"none release 1;-1;-1 | 1", "none local -1;-1;-1 | 2",
			"final commit -1;-1;-1 @6 3>3 lost end killed | 2"}, 2, api.EndCommit, 0},
		{"quit", []string{"quit quit -1;-1;-1 @6 3>3 lost end killed | 0"}, 0, api.EndUser, 0},
		{"let r1 2\ntake r1 @r1", []string{"none local -1;-1;-1 | 1", "quit quit -1;-1;-1 @6 3>3 lost end killed | 1"}, 1, api.EndBad, 0},
	} {
		f := lay(t, api.Polite, 5)
		j := f.job(c.text)
		f.Step(j)
		f.Killed(1)
		f.Does(j, first, c.lines...)
		f.Does(j, fixture.By(2, 5, 2, 2), "none again -1;-1;-1 | 0")
		f.Run(j)
		f.answers(j, c.place, c.outcome, c.result, 2)
	}
}

// All sixteen registers are empty at each attempt's begin, and its place is 0, however far the one before came.
func TestRegistersAreEmptyAgain(t *testing.T) {
	var text strings.Builder
	for r := range lang.MaxRegs {
		n := strconv.Itoa(r)
		text.WriteString("add r" + n + " r" + n + " " + strconv.Itoa(r+1) + "\n")
	}
	for r := range lang.MaxRegs {
		text.WriteString("put @" + strconv.Itoa(r) + " r" + strconv.Itoa(r) + "\n")
	}
	code := fixture.Program(t, text.String()+"done r3")
	f := layOver(t, make([]int64, api.MaxMap)...)
	j := f.jobOf(2, 5, code)
	attempt := f.Step(j).Attempt
	for try := 1; try <= 40; try++ {
		for range try * 2 {
			f.Step(j)
		}
		f.Killed(attempt)
		for {
			if r := f.Step(j); r.Kind == api.RowAgain {
				if fixture.WhoseOf(r) != fixture.By(2, 5, try+1, attempt+1) {
					t.Fatalf("%+v", r)
				}
				break
			}
		}
		attempt++
		f.tells(j, sight{})
	}
	var want []int64
	for r := range lang.MaxRegs {
		want = append(want, int64(r+1))
	}
	f.Run(j)
	f.answers(j, len(code)-1, api.EndCommit, 4, 41)
	f.committed(want...)
}

// What an attempt that failed was to answer is gone, where the next one ends otherwise.
func TestResultIsNotCarriedOver(t *testing.T) {
	for rest, outcome := range map[string]int{"e:": api.EndCommit, "e: quit": api.EndUser, "e: take r2 @2": api.EndBad} {
		f := lay(t, api.Polite, 5)
		j := f.job("get r1 @0\nif r1 != 7 e\ndone 99\n" + rest)
		f.Until(j, api.RowMine)
		f.Until(j, api.RowLocal)
		f.overtaken(0, 8)
		f.Until(j, api.RowAgain)
		f.Run(j)
		f.answers(j, 3, outcome, 0, 2)
	}
	f := lay(t, api.Polite, 5)
	j := f.job("get r1 @0\nif r1 != 7 e\ndone 99\ne: done r1")
	f.Until(j, api.RowLocal)
	f.Killed(1)
	f.overtaken(0, 8)
	f.Run(j)
	f.answers(j, 3, api.EndCommit, 8, 2)
}

// An answer without a commit has no result, though registers and puts were full.
func TestAnswerWithoutCommit(t *testing.T) {
	for text, outcome := range map[string]int{
		"let r0 5\nput @0 5\nquit":          api.EndUser,
		"let r0 5\nput @0 5\nget r0 @-5":    api.EndBad,
		"let r0 5\nput @0 5\ntake r0 @r0":   api.EndBad,
		"let r0 5\nput @0 5\nput @r0 r0":    api.EndBad,
		"let r0 -1\nput @0 5\ndrop @r0":     api.EndBad,
		"let r0 5\nput @0 5\nquit\ndone r0": api.EndUser,
	} {
		f := lay(t, api.Polite, 5)
		j := f.job(text)
		f.Run(j)
		f.answers(j, 2, outcome, 0, 1)
		f.committed(7, 8)
	}
}

// Six threads add to one object, in turn: each one has its tries, and all of them add up.
func TestManyThreads(t *testing.T) {
	for kind := range api.Managers {
		f := lay(t, kind, 9)
		code := fixture.Program(t, "get r1 @0\nadd r1 r1 1\nadd r2 r2 1\nput @0 r1\nput @1 r2\ndone r1")
		var jobs []*interp.Job
		for thread := range 6 {
			jobs = append(jobs, f.jobOf(thread, 0, code))
		}
		agains := make([]int, 6)
		seen := map[int64]int{}
		for step, left := 0, 6; left > 0; step++ {
			for thread, j := range jobs {
				if j.Over() || step%(thread+3) == 0 {
					continue
				}
				r := f.Step(j)
				if r.Kind == api.RowAgain {
					agains[thread]++
					f.tells(j, sight{})
				}
				if r.Puts && r.Object == 1 && r.Put != (api.Value{Num: 1}) {
					t.Fatalf("kind %d: %q", kind, fixture.Row(r))
				}
				if r.Kind == api.RowReturn {
					left--
				}
			}
			if step > 20000 {
				t.Fatalf("kind %d: no end", kind)
			}
		}
		sum := 0
		for thread, j := range jobs {
			a := j.Answer()
			if a.Outcome != api.EndCommit || a.Tries != 1+agains[thread] || seen[a.Result] > 0 || a.Result < 8 || a.Result > 13 {
				t.Errorf("kind %d: thread %d answers %+v, began again %d times", kind, thread, a, agains[thread])
			}
			seen[a.Result]++
			sum += agains[thread]
		}
		if sum == 0 {
			t.Errorf("kind %d: nobody began again", kind)
		}
		f.committed(13, 1)
	}
}
