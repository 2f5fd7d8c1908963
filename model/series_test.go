package model_test

import (
	"slices"
	"testing"

	"braid/api"
	"braid/fixture"
	"braid/lang"
	"braid/model"
)

type progs = [][]lang.Instr

func series(t *testing.T, list progs, over objects, fuel int, want ...api.Alone) {
	t.Helper()
	over2 := slices.Clone(over)
	var list2 progs
	for _, code := range list {
		list2 = append(list2, slices.Clone(code))
	}
	l, e := model.Series(list, over, fuel)
	if e != api.OK || !slices.EqualFunc(l, want, same) {
		t.Errorf("Series(%+v, %v, %d) = %+v, %d, want %+v", list, over, fuel, l, e, want)
	}
	if !slices.Equal(over, over2) || !slices.EqualFunc(list, list2, slices.Equal[[]lang.Instr]) {
		t.Errorf("Series(%+v, %v, %d) has changed what it was given: %+v, %v", list2, over2, fuel, list, over)
	}
}

func seriesRefuses(t *testing.T, list progs, over objects, fuel int, want api.Errno) {
	t.Helper()
	if l, e := model.Series(list, over, fuel); l != nil || e != want {
		t.Errorf("Series of %d programs, %d objects, fuel %d = %+v, %d, want %d", len(list), len(over), fuel, l, e, want)
	}
}

func TestEmptySeries(t *testing.T) {
	for _, list := range []progs{nil, {}} {
		for _, fuel := range []int{0, 1, 10000} {
			series(t, list, nil, fuel)
			series(t, list, make(objects, 16), fuel)
		}
	}
	series(t, progs{nil}, objects{3}, 1, alone(api.EndCommit, 0, objects{3}, 1))
	series(t, progs{nil, {}}, nil, 0, alone(api.EndNone, 0, nil, 0), alone(api.EndNone, 0, nil, 0))
}

// The first program that is refused tells the error, wherever it stands, and no other program has been run.
func TestSeriesRefused(t *testing.T) {
	many := slicesOf(lang.MaxCode+1, lang.Instr{Code: lang.Quit})
	good := fixture.Program(t, inc)
	for _, over := range []int{0, 1, 16, 17} {
		for _, fuel := range []int{-1, 0, 100, 10000, 10001} {
			seriesRefuses(t, progs{refusedCode}, make(objects, over), fuel, api.ErrCode)
			seriesRefuses(t, progs{many}, make(objects, over), fuel, api.ErrMany)
			seriesRefuses(t, progs{good, refusedCode, good}, make(objects, over), fuel, api.ErrCode)
			seriesRefuses(t, progs{good, many, good}, make(objects, over), fuel, api.ErrMany)
			seriesRefuses(t, progs{good, good, many}, make(objects, over), fuel, api.ErrMany)
			seriesRefuses(t, progs{good, many, refusedCode}, make(objects, over), fuel, api.ErrMany)
			seriesRefuses(t, progs{good, refusedCode, many}, make(objects, over), fuel, api.ErrCode)
		}
	}
	for _, list := range []progs{nil, {nil}, {good}, {good, good}} {
		for _, fuel := range append([]int{-1, 0, 100, 10000, 10001}, far...) {
			seriesRefuses(t, list, make(objects, 17), fuel, api.ErrObjects)
			seriesRefuses(t, list, make(objects, 100), fuel, api.ErrObjects)
		}
		for _, fuel := range append([]int{-1, 10001}, far...) {
			seriesRefuses(t, list, nil, fuel, api.ErrFuel)
			seriesRefuses(t, list, make(objects, 16), fuel, api.ErrFuel)
		}
	}
}

// One that does not commit in the middle leaves the map as it was, for the next one too.
func TestSeriesWithoutCommitInTheMiddle(t *testing.T) {
	p := fixture.Program(t, inc)
	for _, c := range []struct {
		text string
		want api.Alone
	}{
		{"put @0 99\nquit", alone(api.EndUser, 0, objects{6, 7}, 2)},
		{"put @0 99\nput @2 99", alone(api.EndBad, 0, objects{6, 7}, 2)},
		{"put @0 99\nx: goto x", alone(api.EndNone, 0, objects{6, 7}, 50)},
	} {
		series(t, progs{p, fixture.Program(t, c.text), p}, objects{5, 7}, 50,
			alone(api.EndCommit, 6, objects{6, 7}, 4), c.want, alone(api.EndCommit, 7, objects{7, 7}, 4))
	}
	swap := fixture.Program(t, "get r1 @0\nget r2 @1\nput @0 r2\nput @1 r1\ndone r2")
	series(t, progs{swap, p, swap}, objects{5, 7}, 50,
		alone(api.EndCommit, 7, objects{7, 5}, 5), alone(api.EndCommit, 8, objects{8, 5}, 4), alone(api.EndCommit, 5, objects{5, 8}, 5))
}

// Each program has the whole fuel, and registers and reads of its own.
func TestSeriesFuelIsEachOnes(t *testing.T) {
	p := fixture.Program(t, inc)
	series(t, progs{p, p}, objects{5}, 4, alone(api.EndCommit, 6, objects{6}, 4), alone(api.EndCommit, 7, objects{7}, 4))
	series(t, progs{p, nil, p}, objects{5}, 3, alone(api.EndNone, 0, objects{5}, 3), alone(api.EndCommit, 0, objects{5}, 1), alone(api.EndNone, 0, objects{5}, 3))
	series(t, progs{p, p}, objects{5}, 0, alone(api.EndNone, 0, objects{5}, 0), alone(api.EndNone, 0, objects{5}, 0))
	tell := fixture.Program(t, "done r1")
	series(t, progs{p, tell}, objects{5}, 9, alone(api.EndCommit, 6, objects{6}, 4), alone(api.EndCommit, 0, objects{6}, 1))
}

// As many programs as one likes.
func TestLongSeries(t *testing.T) {
	p := fixture.Program(t, inc)
	var list progs
	var want []api.Alone
	for k := range int64(5000) {
		list = append(list, p)
		want = append(want, alone(api.EndCommit, k+1, objects{k + 1}, 4))
	}
	series(t, list, objects{0}, 4, want...)
}

// fill writes into a list and its spare room.
func fill(list objects, n int64) {
	list = list[:cap(list)]
	for i := range list {
		list[i] = n
	}
}

// What is answered shares no memory with what was handed in, nor two answers with one another; spare room too.
func TestAnswersShareNothing(t *testing.T) {
	room := make(objects, 40)
	over := room[:2]
	over[0], over[1] = 5, 7
	for _, code := range []string{inc, "quit", "get r1 @9", "x: goto x", "put @1 4"} {
		p := fixture.Program(t, code)
		a := answer(t, p, over, nil, 50)
		b := answer(t, p, over, nil, 50)
		keep := alone(b.Outcome, b.Result, slices.Clone(b.Objects), b.Count)
		fill(a.Objects, 1000)
		if !same(b, keep) || !slices.Equal(over, objects{5, 7}) || slices.Contains(room, 1000) {
			t.Errorf("%q: a write into an answer is seen: %+v, %v", code, b, room)
		}
		fill(over[:2:2], 2000)
		if !same(b, keep) {
			t.Errorf("%q: a write into the map is seen: %+v", code, b)
		}
		over[0], over[1] = 5, 7
	}
	p, q := fixture.Program(t, inc), fixture.Program(t, "quit")
	list := progs{p, q, p, q}
	for k := range list {
		l, _ := model.Series(list, over, 50)
		m, _ := model.Series(list, over, 50)
		fill(l[k].Objects, 3000)
		fill(over[:2:2], 3000)
		for i := range l {
			if i != k && slices.Contains(l[i].Objects, 3000) || slices.Contains(m[i].Objects, 3000) {
				t.Errorf("a write into answer %d is seen in answer %d: %+v, %+v", k, i, l, m)
			}
		}
		over[0], over[1] = 5, 7
	}
	if slices.Contains(room[2:], 3000) {
		t.Errorf("the map's spare room was handed out: %v", room)
	}
}
