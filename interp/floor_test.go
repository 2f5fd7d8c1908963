package interp_test

import (
	"fmt"
	"math"
	"strconv"
	"testing"

	"braid/api"
	"braid/fixture"
	"braid/interp"
	"braid/lang"
)

// floor is a scene with jobs over it, each of which tells its place too.
//
// Over two objects the cells are: 1 and 2 the genesis' status and flag, 3 and 4 the objects'; then, as they begin, each
// transaction's priority (5 the first one's) and each attempt's status and flag (6 and 7 the first one's).
type floor struct{ *fixture.Floor }

// lay makes a floor over the objects 7 and 8.
func lay(t *testing.T, kind, patience int) *floor {
	t.Helper()
	return layUnder(t, kind, patience, 7, 8)
}

// layOver makes a floor over these numbers, under a manager that waits one step at most.
func layOver(t *testing.T, nums ...int64) *floor {
	t.Helper()
	return layUnder(t, api.Polite, 1, nums...)
}

func layUnder(t *testing.T, kind, patience int, nums ...int64) *floor {
	t.Helper()
	f := &floor{fixture.Lay(t, kind, patience, fixture.Numbers(nums...), nil)}
	f.More = func(j fixture.Job) string { return " | " + strconv.Itoa(j.(*interp.Job).Place()) }
	return f
}

// job makes a job of thread 2, its number 5, that may name all objects of the floor.
func (f *floor) job(text string) *interp.Job {
	f.Helper()
	return f.jobOf(2, 5, fixture.Program(f, text))
}

func (f *floor) jobOf(thread, number int, code []lang.Instr) *interp.Job {
	f.Helper()
	j, e := interp.New(f.Fresh(thread, number), code, f.Scene.World.Objects())
	if j == nil || e != api.OK {
		f.Fatalf("New(%+v) = %v, %d", code, j, e)
	}
	return j
}

// jobWith makes a job that may name so many objects.
func (f *floor) jobWith(text string, objects int) *interp.Job {
	f.Helper()
	j, e := interp.New(f.Fresh(2, 5), fixture.Program(f, text), objects)
	f.OK(e)
	return j
}

// overtaken has another job, of thread 8, commit a number.
func (f *floor) overtaken(object int, n int64) {
	f.Helper()
	f.Run(f.jobOf(8, 8, []lang.Instr{{Code: lang.Put, Obj: fixture.Num(int64(object)), X: fixture.Num(n)}}))
	if now := f.Scene.World.Committed()[object]; now != (api.Value{Num: n}) {
		f.Fatalf("object %d holds %+v", object, now)
	}
}

func (f *floor) committed(nums ...int64) {
	f.Helper()
	if got, want := fmt.Sprint(f.Scene.World.Committed()), fmt.Sprint(fixture.Numbers(nums...)); got != want {
		f.Fatalf("committed %v, want %v", got, want)
	}
}

// sight is all that a job tells of itself.
type sight struct {
	place  int
	over   bool
	answer api.Answer
}

func sightOf(j *interp.Job) sight { return sight{j.Place(), j.Over(), j.Answer()} }

func (f *floor) tells(j *interp.Job, want sight) {
	f.Helper()
	if got := sightOf(j); got != want {
		f.Fatalf("tells %+v, want %+v", got, want)
	}
}

// answers looks that a job is over, at that place and with that answer, and takes no further step.
func (f *floor) answers(j *interp.Job, place, outcome int, result int64, tries int) {
	f.Helper()
	if now := j.Place(); now != place {
		f.Fatalf("the place is %d, want %d", now, place)
	}
	f.Answers(j, api.Answer{Outcome: outcome, Result: result, Tries: tries})
}

// badNumbers are numbers that no object has where there are so many.
func badNumbers(many int) []int64 {
	n := int64(many)
	return []int64{n, n + 1, -1, -2, 16, 17, 255, 256, 1<<32 + 1, -1 << 32, math.MaxInt32, math.MinInt32, math.MaxInt64, math.MaxInt64 - 1, math.MinInt64, math.MinInt64 + 1}
}
