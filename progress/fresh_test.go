package progress_test

import (
	"runtime"
	"slices"
	"testing"

	"braid/api"
	"braid/fixture"
	"braid/machine"
	"braid/progress"
)

// contest is a script in which attempts fail and meet, with room behind its picks; each thread has something under way.
func contest(t *testing.T) machine.Script {
	t.Helper()
	s := script(nil, thread(program(t, one), program(t, circle)), thread(program(t, one), insert(3)), thread(insert(4), insert(3)))
	s.Manager, s.Patience, s.Draws = api.Greedy, 6, []int64{3, 1, 4}
	s.Picks = append(make([]int64, 0, api.MaxPicks), slices.Repeat([]int64{0, 1, 2, 1, 0}, 8)...)
	return s
}

// battle is rows of several threads, with room behind them.
func battle() []api.Row {
	list := laid(
		begin(0), begin(1), met(0, api.RowMine, 2), met(1, api.RowLook, 1), met(0, api.RowKill, 2), down(0, 2), begin(2), commit(2),
		killed(1, api.RowMine), again(1), met(1, api.RowWait, 1), met(0, api.RowLook, 4), quit(0, api.EndStale), again(0), met(0, api.RowWait, 4),
	)
	return append(make([]api.Row, 0, 40), list...)
}

// answers are what all calls tell.
type answers struct {
	bound, deadline int64
	needs, took     [3]int
	says            [3]api.Answer
	errors          [6]api.Errno
	failures        []api.Failure
	clashes         []api.Clash
}

func ask(s machine.Script, list []api.Row) answers {
	a := answers{bound: progress.Bound(30, 7), deadline: progress.Deadline(30, 7)}
	for p := range 3 {
		a.needs[p], a.errors[p] = progress.Need(s, p)
		a.took[p], a.says[p], a.errors[3+p] = progress.Finish(s, p)
	}
	a.failures, _ = progress.Failures(list)
	a.clashes, _ = progress.Clashes(list)
	return a
}

func (a answers) same(b answers) bool {
	return a.bound == b.bound && a.deadline == b.deadline && a.needs == b.needs && a.took == b.took && a.says == b.says && a.errors == b.errors &&
		slices.Equal(a.failures, b.failures) && slices.Equal(a.clashes, b.clashes)
}

// sound looks that the answers are not empty, and those that other ways tell too.
func sound(t *testing.T, a answers) {
	t.Helper()
	if len(a.failures) != 2 || len(a.clashes) != 5 || a.bound != 30*(35+60+12)+2 || a.needs[1]*a.needs[2]*a.took[0]*a.took[1]*a.took[2] == 0 {
		t.Fatalf("%+v", a)
	}
	if !slices.Equal(a.failures, plainFailures(t, battle())) || !slices.Equal(a.clashes, plainClashes(t, battle())) {
		t.Fatalf("%+v", a)
	}
}

// R3: no call changes what it is given, the room behind it too.
func TestHandedIn(t *testing.T) {
	s, kept := contest(t), contest(t)
	list, keptRows := battle(), battle()
	ask(s, list)
	if !fixture.SameScript(s, kept) || !slices.Equal(s.Picks[:cap(s.Picks)], kept.Picks[:cap(kept.Picks)]) {
		t.Errorf("the script is %+v", s)
	}
	if !slices.Equal(list[:cap(list)], keptRows[:cap(keptRows)]) {
		t.Errorf("the rows are %+v", list)
	}
}

// R3: what was answered is the caller's, its spare room too, and what was handed in is not kept.
func TestAnswersAreNew(t *testing.T) {
	s, list := contest(t), battle()
	want, a, b := ask(contest(t), battle()), ask(s, list), ask(s, list)
	sound(t, want)
	fixture.Full(a.failures, api.Failure{Tx: 99})
	fixture.Full(a.clashes, api.Clash{Thread: 99})
	if !b.same(want) || !ask(s, list).same(want) {
		t.Errorf("%+v, then %+v", b, ask(s, list))
	}
	fixture.Full(list, api.Row{Kind: 99})
	fixture.Full(s.Picks, 2)
	fixture.Full(s.Threads[0], machine.Job{Kind: 99})
	fixture.Full(s.Objects, 99)
	fixture.Full(s.Threads, nil)
	if !b.same(want) || !ask(contest(t), battle()).same(want) {
		t.Errorf("%+v, then %+v", b, ask(contest(t), battle()))
	}
}

// R4, R6: the same answers, however often they are asked for and by how many at once, and no goroutine is left.
func TestTheSameAgain(t *testing.T) {
	s, list := contest(t), battle()
	want := ask(contest(t), battle())
	sound(t, want)
	fixture.OverAgain(t, runtime.NumGoroutine, 40, func() {
		if got := ask(s, list); !got.same(want) {
			t.Errorf("%+v", got)
		}
	})
}

// Long lists of rows are gone through all the same.
func TestManyRows(t *testing.T) {
	d := fixture.NewDice()
	var list []api.Row
	list = append(list, begin(0), begin(1))
	for range 60000 {
		p := d.Below(2)
		list = append(list, met(p, api.RowLook, 3), killed(p, api.RowMine), again(p))
	}
	list = laid(list...)
	failures, e := progress.Failures(list)
	clashes, f := progress.Clashes(list)
	if e != api.OK || f != api.OK || len(failures) != 60000 || len(clashes) != 60000 {
		t.Errorf("%d failures, %d; %d conflicts, %d", len(failures), e, len(clashes), f)
	}
}
