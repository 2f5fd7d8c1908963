package linear_test

import (
	"slices"
	"testing"

	"braid/api"
	"braid/fixture"
	"braid/linear"
	"braid/machine"
)

// The rows and results of package fixture, by short names.
var (
	of, stutter, begin, again, back = fixture.Of, fixture.Stutter, fixture.Begin, fixture.Again, fixture.Back
	commit, quit, killed            = fixture.Commit, fixture.Quit, fixture.Killed
	with, laid                      = fixture.With, fixture.Laid
	played, copied                  = fixture.Played, fixture.CopiedResult
)

func insert(key int64, yes bool, from, point, to int) api.Call {
	return api.Call{Kind: api.JobInsert, Key: key, Yes: yes, From: from, Point: point, To: to}
}

func remove(key int64, yes bool, from, point, to int) api.Call {
	return api.Call{Kind: api.JobRemove, Key: key, Yes: yes, From: from, Point: point, To: to}
}

func contains(key int64, yes bool, from, point, to int) api.Call {
	return api.Call{Kind: api.JobContains, Key: key, Yes: yes, From: from, Point: point, To: to}
}

func least(yes bool, result int64, from, point, to int) api.Call {
	return api.Call{Kind: api.JobLeast, Yes: yes, Result: result, From: from, Point: point, To: to}
}

func size(result int64, from, point, to int) api.Call {
	return api.Call{Kind: api.JobSize, Yes: true, Result: result, From: from, Point: point, To: to}
}

func move(key, other int64, yes bool, from, point, to int) api.Call {
	return api.Call{Kind: api.JobMove, Key: key, Other: other, Yes: yes, From: from, Point: point, To: to}
}

// list are calls.
func list(calls ...api.Call) []api.Call { return calls }

// otherwise is a call in which something is otherwise.
func otherwise(c api.Call, change func(*api.Call)) api.Call {
	change(&c)
	return c
}

// swapped are the calls with another one at a place.
func swapped(calls []api.Call, place int, c api.Call) []api.Call {
	calls = slices.Clone(calls)
	calls[place] = c
	return calls
}

func points(t *testing.T, calls []api.Call, want int) {
	t.Helper()
	if got, e := linear.ByPoints(calls); got != want || e != api.OK {
		t.Fatalf("ByPoints(%+v) = %d, %d, want %d", calls, got, e, want)
	}
}

// lines looks that Search finds that line.
func lines(t *testing.T, calls []api.Call, want ...int) {
	t.Helper()
	if got, found, e := linear.Search(calls); !found || e != api.OK || !slices.Equal(got, want) {
		t.Fatalf("Search(%+v) = %v, %v, %d, want %v", calls, got, found, e, want)
	}
}

// noLine looks that Search finds none.
func noLine(t *testing.T, calls []api.Call) {
	t.Helper()
	if got, found, e := linear.Search(calls); got != nil || found || e != api.OK {
		t.Fatalf("Search(%+v) = %v, %v, %d, want none", calls, got, found, e)
	}
}

func keys(t *testing.T, calls []api.Call, want ...int64) {
	t.Helper()
	if got, e := linear.Keys(calls); e != api.OK || !slices.Equal(got, want) {
		t.Fatalf("Keys(%+v) = %v, %d, want %v", calls, got, e, want)
	}
}

// refused looks that the calls are such as may not be; Search may have looked how many there are first.
func refused(t *testing.T, calls []api.Call, search api.Errno) {
	t.Helper()
	if got, e := linear.ByPoints(calls); got != 0 || e != api.ErrCall {
		t.Fatalf("ByPoints(%+v) = %d, %d", calls, got, e)
	}
	if got, e := linear.Keys(calls); got != nil || e != api.ErrCall {
		t.Fatalf("Keys(%+v) = %v, %d", calls, got, e)
	}
	if got, found, e := linear.Search(calls); got != nil || found || e != search {
		t.Fatalf("Search(%+v) = %v, %v, %d, want %d", calls, got, found, e, search)
	}
}

func run(t *testing.T, s machine.Script) machine.Result {
	t.Helper()
	r, e := machine.Run(s)
	if e != api.OK {
		t.Fatalf("Run = %d", e)
	}
	return r
}

func told(t *testing.T, s machine.Script, r machine.Result, want ...api.Call) {
	t.Helper()
	if got, e := linear.Calls(s, r); e != api.OK || !slices.Equal(got, want) {
		t.Fatalf("Calls = %+v, %d, want %+v", got, e, want)
	}
}

func lists(t *testing.T, s machine.Script, r machine.Result, want int) {
	t.Helper()
	if got, e := linear.Lists(s, r); got != want || e != api.OK {
		t.Fatalf("Lists = %d, %d, want %d", got, e, want)
	}
}

// unfit looks that a result is refused.
func unfit(t *testing.T, s machine.Script, r machine.Result, why api.Errno) {
	t.Helper()
	if got, e := linear.Calls(s, r); got != nil || e != why {
		t.Fatalf("Calls = %+v, %d, want %d", got, e, why)
	}
	if got, e := linear.Lists(s, r); got != 0 || e != why {
		t.Fatalf("Lists = %d, %d, want %d", got, e, why)
	}
}

// job is a job of a kind; the keys of one that takes none are 0.
func job(kind int, keys ...int64) machine.Job {
	keys = append(keys, 0, 0)
	return machine.Job{Kind: kind, Key: keys[0], Other: keys[1]}
}

// scripted is a script of jobs, a thread for each list, over these numbers.
func scripted(numbers []int64, threads ...[]machine.Job) machine.Script {
	return machine.Script{Objects: numbers, Threads: threads, Patience: 10}
}

// final is a row with which the last operation begins.
func final(thread int) api.Row {
	return with(of(thread, api.RowPoint), func(r *api.Row) { r.Phase = api.PhaseFinal })
}

// links is a row that puts a head or a node.
func links(thread, object int, v api.Value) api.Row {
	return with(of(thread, api.RowLocal), func(r *api.Row) { r.Object, r.Puts, r.Put = object, true, v })
}

// node is one with a key; next -1: the last one.
func node(key int64, next int) api.Value { return api.Value{Num: key, Next: next} }
