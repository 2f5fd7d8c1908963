package locator_test

import (
	"math"
	"slices"
	"testing"

	"braid/api"
	"braid/cell"
	"braid/locator"
)

// none are numbers of which no list of a test's world has one.
var none = []int{math.MinInt, math.MinInt + 1, -1 << 32, -2, -1, 1 << 20, 1 << 32, math.MaxInt - 1, math.MaxInt}

// play is a world over a memory, with the steps that have begun.
type play struct {
	*testing.T
	m    *cell.Memory
	w    *locator.World
	step int
}

func numbers(nums ...int64) []api.Value {
	var values []api.Value
	for _, n := range nums {
		values = append(values, api.Value{Num: n})
	}
	return values
}

func over(t *testing.T, m *cell.Memory, values []api.Value) *play {
	t.Helper()
	w, e := locator.New(m, values)
	if w == nil || e != api.OK {
		t.Fatalf("New of %d values = %v, %d", len(values), w, e)
	}
	return &play{T: t, m: m, w: w}
}

func fresh(t *testing.T, nums ...int64) *play {
	t.Helper()
	return over(t, cell.New(), numbers(nums...))
}

func (p *play) open() {
	p.Helper()
	if e := p.m.Begin(p.step, 0); e != api.OK {
		p.Fatalf("Begin(%d) = %d", p.step, e)
	}
	p.step++
}

// is asks, within a step of its own where the call has an access, and looks how many rows came.
func (p *play) is(c call, want answer) {
	p.Helper()
	rows := len(p.m.Log())
	if isAccess(c.kind) {
		p.open()
		if want.e == api.OK {
			rows++
		}
	}
	if got := ask(p.w, c); got != want {
		p.Fatalf("call %v = %v, want %v", c, got, want)
	}
	if got := len(p.m.Log()); got != rows {
		p.Fatalf("behind call %v the log has %d rows, want %d", c, got, rows)
	}
}

func (p *play) num(want int, e api.Errno, kind int, args ...int) {
	p.Helper()
	p.is(given(kind, args), answer{num: want, e: e})
}

func (p *play) yes(want bool, e api.Errno, kind int, args ...int) {
	p.Helper()
	p.is(given(kind, args), answer{yes: want, e: e})
}

func (p *play) loc(loc int, want api.Locator, e api.Errno) {
	p.Helper()
	p.is(call{kind: askLocator, a: loc}, answer{loc: want, e: e})
}

func (p *play) ver(ver int, want int64, e api.Errno) {
	p.Helper()
	p.is(call{kind: askVersion, a: ver}, answer{value: api.Value{Num: want}, e: e})
}

func (p *play) put(loc int, n int64, e api.Errno) {
	p.Helper()
	p.is(call{kind: askPut, a: loc, value: api.Value{Num: n}}, answer{e: e})
}

func (p *play) mark(att int, up bool, want bool, e api.Errno) {
	p.Helper()
	p.is(call{kind: askMark, a: att, up: up}, answer{yes: want, e: e})
}

func (p *play) holds(nums ...int64) {
	p.Helper()
	rows := len(p.m.Log())
	if got := p.w.Committed(); !slices.Equal(got, numbers(nums...)) || len(p.m.Log()) != rows {
		p.Fatalf("Committed = %v, want %v", got, nums)
	}
}

func given(kind int, args []int) call {
	args = append(slices.Clone(args), 0, 0, 0)
	return call{kind: kind, a: args[0], b: args[1], c: args[2]}
}

func TestExamples(t *testing.T) {
	p := fresh(t, 7, 8)
	if p.w.Objects() != 2 {
		t.Fatalf("Objects = %d", p.w.Objects())
	}
	p.num(0, 0, askStatusCell, 0)
	p.num(1, 0, askFlagCell, 0)
	p.num(2, 0, askObjectCell, 0)
	p.num(3, 0, askObjectCell, 1)
	p.num(0, api.ErrObject, askObjectCell, 2)
	p.num(0, 0, askLoad, 0)
	p.loc(0, api.Locator{}, 0)
	p.num(api.Committed, 0, askStatus, 0)
	p.num(0, 0, askCurrent, 0, api.Committed)
	p.ver(0, 7, 0)
	p.num(0, api.ErrObject, askLoad, 2)
	p.yes(false, api.ErrAttempt, askKill, 0)

	owner := api.Owner{Thread: 3, Stamp: 10, Priority: -1}
	p.is(call{kind: askAttempt, owner: owner}, answer{num: 1})
	p.is(call{kind: askOwner, a: 1}, answer{owner: owner})
	p.num(4, 0, askStatusCell, 1)
	p.num(5, 0, askFlagCell, 1)
	p.num(2, 0, askMake, 1, 0)
	p.loc(2, api.Locator{Owner: 1, Old: 0, New: 2}, 0)
	p.ver(2, 7, 0)
	p.put(2, 9, 0)
	p.ver(2, 9, 0)
	p.yes(true, 0, askAcquire, 0, 0, 2)
	p.holds(7, 8)
	p.yes(true, 0, askCommit, 1)
	p.holds(9, 8)
	p.yes(false, 0, askCommit, 1)
	p.yes(false, 0, askKill, 1)
	p.put(2, 5, api.ErrDone)
	p.ver(2, 9, 0)

	p.num(2, 0, askAttempt)
	p.num(3, 0, askMake, 2, 2)
	p.yes(false, 0, askAcquire, 0, 0, 3)
	p.yes(true, 0, askAcquire, 0, 2, 3)
	p.yes(false, api.ErrUsed, askAcquire, 1, 1, 3)
	p.yes(true, 0, askKill, 2)
	p.num(api.Aborted, 0, askStatus, 2)
	p.num(2, 0, askCurrent, 3, api.Aborted)
	p.holds(9, 8)
	p.put(3, 1, 0)
	p.ver(3, 1, 0)
	p.holds(9, 8)

	p.mark(2, true, true, 0)
	p.mark(2, true, false, 0)
	p.yes(true, 0, askFlag, 2)
	p.mark(2, false, true, 0)
	p.mark(2, false, false, 0)
	p.yes(false, 0, askFlag, 2)

	p.open()
	if n, e := p.w.Load(0); n != 3 || e != api.OK {
		t.Fatalf("Load = %d, %d", n, e)
	}
	if n, e := p.w.Load(0); n != 0 || e != api.ErrClosed {
		t.Fatalf("a second access = %d, %d", n, e)
	}
	p.num(0, api.ErrStatus, askCurrent, 2, 0)
	p.num(0, api.ErrLocator, askCurrent, 9, 0)
}

func TestTheGenesis(t *testing.T) {
	p := fresh(t, 7, 8, 9)
	p.is(call{kind: askOwner}, answer{owner: api.Owner{Thread: -1, Stamp: -1, Priority: -1}})
	for o := range 3 {
		p.num(o, 0, askLoad, o)
		p.loc(o, api.Locator{Owner: 0, Old: o, New: o}, 0)
		p.ver(o, int64(7+o), 0)
		for _, status := range []int{api.Active, api.Committed, api.Aborted} {
			p.num(o, 0, askCurrent, o, status)
		}
		p.put(o, 1, api.ErrOwner)
		p.yes(false, api.ErrUsed, askAcquire, o, o, o)
		p.yes(false, api.ErrUsed, askAcquire, o, o, (o+1)%3)
	}
	p.num(0, api.ErrAttempt, askMake, 0, 0)
	p.num(0, api.ErrAttempt, askMake, 0, 77)
	p.yes(false, api.ErrAttempt, askKill, 0)
	p.yes(false, api.ErrAttempt, askCommit, 0)
	p.mark(0, true, false, api.ErrAttempt)
	p.mark(0, false, false, api.ErrAttempt)
	p.yes(false, 0, askFlag, 0)
	p.num(api.Committed, 0, askStatus, 0)
	p.holds(7, 8, 9)
}

func TestAttemptsBegin(t *testing.T) {
	p := fresh(t, 7)
	owners := []api.Owner{{}, {Thread: -5, Stamp: math.MinInt64, Priority: math.MinInt}, {Thread: math.MaxInt, Stamp: math.MaxInt64, Priority: math.MaxInt}, {Thread: 1, Stamp: 2, Priority: 3}}
	for i, o := range owners {
		p.is(call{kind: askAttempt, owner: o}, answer{num: i + 1})
	}
	for i, o := range owners {
		p.is(call{kind: askOwner, a: i + 1}, answer{owner: o})
		p.num(3+2*i, 0, askStatusCell, i+1)
		p.num(4+2*i, 0, askFlagCell, i+1)
		p.num(api.Active, 0, askStatus, i+1)
		p.yes(false, 0, askFlag, i+1)
	}
	p.holds(7)
}

func TestRoomForObjects(t *testing.T) {
	for _, count := range []int{0, api.MaxObjects + 1, 1000} {
		m := cell.New()
		if w, e := locator.New(m, make([]api.Value, count)); w != nil || e != api.ErrRoom || m.Size() != 0 {
			t.Errorf("New of %d values = %v, %d, with %d cells", count, w, e, m.Size())
		}
	}
	if w, e := locator.New(cell.New(), nil); w != nil || e != api.ErrRoom {
		t.Errorf("New of nil = %v, %d", w, e)
	}
	for _, count := range []int{0, 1, api.MaxObjects, api.MaxObjects + 1} {
		if w, e := locator.New(nil, make([]api.Value, count)); w != nil || e != api.ErrRoom {
			t.Errorf("New over no memory = %v, %d", w, e)
		}
	}
	for _, count := range []int{1, api.MaxObjects} {
		values := make([]api.Value, count)
		for i := range values {
			values[i] = api.Value{Num: int64(100 - i), Next: i - 3, Dead: i%2 == 0}
		}
		p := over(t, cell.New(), values)
		same(t, p.m, p.w, plainWorld(nil, values))
		p.num(0, api.ErrObject, askLoad, count)
		p.num(0, api.ErrObject, askObjectCell, count)
		p.num(count-1, 0, askLoad, count-1)
	}
}

// filled makes a memory with that many cells left.
func filled(t *testing.T, left int) *cell.Memory {
	t.Helper()
	m := cell.New()
	for m.Size() < api.MaxCells-left {
		if _, e := m.Make(-9); e != api.OK {
			t.Fatalf("Make = %d", e)
		}
	}
	return m
}

func TestRoomOfTheMemory(t *testing.T) {
	for _, count := range []int{1, 2, api.MaxObjects} {
		for less := 1; less <= 2+count; less++ {
			m := filled(t, 2+count-less)
			size := m.Size()
			if w, e := locator.New(m, make([]api.Value, count)); w != nil || e != api.ErrRoom || m.Size() != size {
				t.Fatalf("New of %d values with %d cells too few = %v, %d, and %d cells were made", count, less, w, e, m.Size()-size)
			}
		}
	}
	for left := range 6 {
		p := over(t, filled(t, 3+left), numbers(7))
		for att := 1; att <= left/2; att++ {
			p.num(att, 0, askAttempt)
		}
		size := p.m.Size()
		p.num(0, api.ErrRoom, askAttempt)
		p.num(0, api.ErrAttempt, askOwner, left/2+1)
		if p.m.Size() != size || size != api.MaxCells-left%2 {
			t.Fatalf("the memory has %d cells, had %d", p.m.Size(), size)
		}
		p.holds(7)
	}
}

func TestRoomForAttempts(t *testing.T) {
	p := fresh(t, 7)
	for att := 1; att < api.MaxAttempts; att++ {
		if n, e := p.w.Attempt(api.Owner{Thread: att}); n != att || e != api.OK {
			t.Fatalf("Attempt = %d, %d, want %d", n, e, att)
		}
	}
	size := p.m.Size()
	for range 2 {
		p.num(0, api.ErrRoom, askAttempt)
	}
	p.num(0, api.ErrAttempt, askStatusCell, api.MaxAttempts)
	if p.m.Size() != size {
		t.Errorf("a refused attempt made %d cells", p.m.Size()-size)
	}
	last := api.MaxAttempts - 1
	p.is(call{kind: askOwner, a: last}, answer{owner: api.Owner{Thread: last}})
	p.num(size-2, 0, askStatusCell, last)
	p.num(1, 0, askMake, last, 0)
	p.put(1, 5, 0)
	p.yes(true, 0, askAcquire, 0, 0, 1)
	p.yes(true, 0, askCommit, last)
	p.holds(5)
}

func TestRoomForLocators(t *testing.T) {
	p := fresh(t, 7, 8)
	p.num(1, 0, askAttempt)
	for loc := 2; loc < api.MaxLocators; loc++ {
		if n, e := p.w.Make(1, loc%2); n != loc || e != api.OK {
			t.Fatalf("Make = %d, %d, want %d", n, e, loc)
		}
	}
	last := api.MaxLocators - 1
	for range 2 {
		p.num(0, api.ErrRoom, askMake, 1, 0)
	}
	p.num(0, api.ErrVersion, askMake, 1, last)
	p.num(0, api.ErrVersion, askMake, 1, api.MaxLocators)
	p.num(0, api.ErrAttempt, askMake, 0, last)
	p.num(0, api.ErrAttempt, askMake, 2, 0)
	p.loc(last, api.Locator{Owner: 1, Old: 1, New: last}, 0)
	p.loc(api.MaxLocators, api.Locator{}, api.ErrLocator)
	p.ver(api.MaxLocators, 0, api.ErrVersion)
	p.put(last, 6, 0)
	p.yes(true, 0, askAcquire, 1, 1, last)
	p.yes(true, 0, askCommit, 1)
	p.holds(7, 6)
}

func TestSeveralErrorsAtOnce(t *testing.T) {
	p := fresh(t, 7, 8)
	for att := 1; att <= 4; att++ {
		p.num(att, 0, askAttempt)
	}
	p.num(2, 0, askMake, 1, 0) // to be in a cell, its owner Committed
	p.num(3, 0, askMake, 1, 0) // never in a cell, its owner Committed
	p.num(4, 0, askMake, 2, 1) // in a cell, its owner Aborted
	p.num(5, 0, askMake, 3, 1) // never in a cell, its owner Active
	p.yes(true, 0, askAcquire, 0, 0, 2)
	p.yes(true, 0, askAcquire, 1, 1, 4)
	p.yes(true, 0, askCommit, 1)
	p.yes(true, 0, askKill, 2)
	for _, bad := range none {
		p.yes(false, api.ErrObject, askAcquire, bad, bad, bad)
		p.yes(false, api.ErrObject, askAcquire, bad, 2, 2)
		p.yes(false, api.ErrLocator, askAcquire, 0, bad, bad)
		p.yes(false, api.ErrLocator, askAcquire, 0, bad, 2)
		p.yes(false, api.ErrLocator, askAcquire, 0, bad, 5)
		p.yes(false, api.ErrLocator, askAcquire, 0, 2, bad)
		p.num(0, api.ErrObject, askLoad, bad)
		p.num(0, api.ErrObject, askObjectCell, bad)
		for _, kind := range []int{askStatus, askStatusCell, askFlagCell} {
			p.num(0, api.ErrAttempt, kind, bad)
		}
		for _, kind := range []int{askKill, askCommit, askFlag, askOwner} {
			p.yes(false, api.ErrAttempt, kind, bad)
		}
		p.mark(bad, true, false, api.ErrAttempt)
		p.mark(bad, false, false, api.ErrAttempt)
		p.num(0, api.ErrAttempt, askMake, bad, bad)
		p.num(0, api.ErrAttempt, askMake, bad, 0)
		p.num(0, api.ErrVersion, askMake, 1, bad)
		p.loc(bad, api.Locator{}, api.ErrLocator)
		p.ver(bad, 0, api.ErrVersion)
		p.put(bad, 3, api.ErrLocator)
		p.num(0, api.ErrLocator, askCurrent, bad, bad)
		p.num(0, api.ErrLocator, askCurrent, bad, api.Active)
		p.num(0, api.ErrStatus, askCurrent, 2, bad)
	}
	for _, status := range []int{0, 4} {
		p.num(0, api.ErrStatus, askCurrent, 2, status)
	}
	p.yes(false, api.ErrUsed, askAcquire, 0, 2, 2) // and its owner is Committed
	p.yes(false, api.ErrDone, askAcquire, 0, 2, 3)
	p.yes(false, api.ErrUsed, askAcquire, 1, 4, 4)
	p.yes(false, 0, askAcquire, 0, 0, 5)
	p.yes(false, 0, askAcquire, 0, 5, 5)
	p.yes(true, 0, askAcquire, 0, 2, 5)
	p.yes(false, api.ErrUsed, askAcquire, 1, 4, 5)
	p.holds(8, 8)
}

// Make asks whether the version may still change, by its own owner's status and no other's.
func TestVersionsThatMayChange(t *testing.T) {
	p := fresh(t, 7, 8)
	for att := 1; att <= 3; att++ {
		p.num(att, 0, askAttempt)
	}
	p.num(2, 0, askMake, 1, 0)
	p.num(3, 0, askMake, 2, 1)
	p.put(2, 20, 0)
	p.put(3, 30, 0)
	for _, ver := range []int{2, 3} {
		for att := 1; att <= 3; att++ {
			p.num(0, api.ErrVersion, askMake, att, ver)
		}
	}
	p.yes(true, 0, askCommit, 1)
	p.yes(true, 0, askKill, 2)
	p.num(4, 0, askMake, 3, 2) // committed, though it was never in a cell
	p.loc(4, api.Locator{Owner: 3, Old: 2, New: 4}, 0)
	p.ver(4, 20, 0)
	for att := 1; att <= 3; att++ {
		p.num(0, api.ErrVersion, askMake, att, 3)
	}
	// the attempt may have any status, and the version be of any object, again and again
	p.num(5, 0, askMake, 1, 2)
	p.num(6, 0, askMake, 2, 2)
	p.num(7, 0, askMake, 2, 1)
	p.num(8, 0, askMake, 3, 0)
	p.num(0, api.ErrVersion, askMake, 3, 6)
	p.num(9, 0, askMake, 2, 5) // a New of the one that has committed
	p.ver(9, 20, 0)
	p.put(5, 1, api.ErrDone)
	p.yes(false, api.ErrDone, askAcquire, 0, 0, 5)
	p.holds(7, 8)
}

// Put and Acquire by the status of the locator's owner.
func TestOwnersThatAreDone(t *testing.T) {
	p := fresh(t, 7, 8)
	for att := 1; att <= 2; att++ {
		p.num(att, 0, askAttempt)
		p.num(2*att, 0, askMake, att, 0)
		p.num(2*att+1, 0, askMake, att, 1)
	}
	p.yes(true, 0, askCommit, 1)
	p.yes(true, 0, askKill, 2)
	for _, loc := range []int{2, 3} {
		p.put(loc, 50, api.ErrDone)
		p.yes(false, api.ErrDone, askAcquire, 0, 0, loc)
		p.ver(loc, int64(5+loc), 0)
	}
	p.put(4, 60, 0)
	p.ver(4, 60, 0)
	p.yes(true, 0, askAcquire, 0, 0, 4)
	p.holds(7, 8)
	p.put(4, 61, 0)
	p.yes(true, 0, askAcquire, 1, 1, 5)
	p.put(5, 62, 0)
	p.holds(7, 8)
	p.yes(false, 0, askCommit, 2)
	p.holds(7, 8)
	p.yes(false, api.ErrUsed, askAcquire, 1, 5, 4)
}

// All that an attempt owns changes with one Swap, and nothing else does.
func TestOneSwapForAll(t *testing.T) {
	p := fresh(t, 1, 2, 3, 4)
	p.num(1, 0, askAttempt)
	p.num(2, 0, askAttempt)
	for o := range 3 {
		p.num(4+o, 0, askMake, 1, o)
		p.put(4+o, int64(10*(o+1)), 0)
		p.yes(true, 0, askAcquire, o, o, 4+o)
	}
	p.num(7, 0, askMake, 2, 1)
	p.put(7, 77, 0)
	p.yes(true, 0, askAcquire, 1, 5, 7) // taken from an Active one
	p.num(8, 0, askMake, 1, 3)
	p.put(8, 88, 0)
	p.holds(1, 2, 3, 4)
	p.yes(true, 0, askCommit, 1)
	p.holds(10, 2, 30, 4)
	p.yes(true, 0, askKill, 2)
	p.holds(10, 2, 30, 4)

	// a next whose Old is another than the current one moves its object alone
	p.num(3, 0, askAttempt)
	p.num(9, 0, askMake, 3, 6)
	p.yes(true, 0, askAcquire, 3, 3, 9)
	p.holds(10, 2, 30, 30)
}

// A locator that lost its Swap may be tried again, one that won may not.
func TestLostSwaps(t *testing.T) {
	p := fresh(t, 7, 8)
	p.num(1, 0, askAttempt)
	p.num(2, 0, askAttempt)
	p.num(2, 0, askMake, 1, 0)
	p.num(3, 0, askMake, 2, 0)
	p.yes(false, 0, askAcquire, 0, 1, 2)
	p.yes(false, 0, askAcquire, 0, 3, 2)
	p.yes(false, 0, askAcquire, 0, 2, 2)
	p.yes(true, 0, askAcquire, 0, 0, 2)
	for _, have := range []int{0, 1, 2, 3} {
		p.yes(false, api.ErrUsed, askAcquire, 0, have, 2)
		p.yes(false, api.ErrUsed, askAcquire, 1, have, 2)
	}
	p.yes(false, 0, askAcquire, 0, 0, 3)
	p.yes(true, 0, askAcquire, 0, 2, 3)
	p.yes(false, api.ErrUsed, askAcquire, 0, 3, 2) // taken away, and used all the same
	p.yes(false, api.ErrUsed, askAcquire, 0, 3, 0)
	p.num(3, 0, askLoad, 0)
	p.num(1, 0, askLoad, 1)
}

func TestKillAndCommitBehindOneAnother(t *testing.T) {
	first := []struct{ kind, status int }{{askKill, api.Aborted}, {askCommit, api.Committed}}
	for _, a := range first {
		for _, b := range first {
			p := fresh(t, 7)
			p.num(1, 0, askAttempt)
			p.num(2, 0, askAttempt)
			p.num(api.Active, 0, askStatus, 1)
			p.yes(true, 0, a.kind, 1)
			for range 2 {
				p.num(a.status, 0, askStatus, 1)
				p.yes(false, 0, b.kind, 1)
				p.yes(false, 0, a.kind, 1)
			}
			p.num(a.status, 0, askStatus, 1)
			p.num(api.Active, 0, askStatus, 2)
			p.yes(true, 0, b.kind, 2)
			p.num(b.status, 0, askStatus, 2)
		}
	}
}

func TestFlagsMarkedTwice(t *testing.T) {
	p := fresh(t, 7)
	p.num(1, 0, askAttempt)
	p.num(2, 0, askAttempt)
	p.mark(1, false, false, 0)
	for range 2 {
		p.mark(1, true, true, 0)
		p.mark(1, true, false, 0)
		p.yes(true, 0, askFlag, 1)
		p.yes(false, 0, askFlag, 2)
		p.mark(1, false, true, 0)
		p.mark(1, false, false, 0)
		p.yes(false, 0, askFlag, 1)
	}
	p.mark(2, true, true, 0)
	p.yes(true, 0, askKill, 2)
	p.yes(true, 0, askFlag, 2)
	p.mark(2, false, true, 0) // of one that is Aborted, too
	p.num(api.Aborted, 0, askStatus, 2)
}

// Ahead of the first step, and behind a step's access, each access is refused, and changes nothing.
func TestAccessesOutOfPlace(t *testing.T) {
	m := cell.New()
	p := over(t, m, numbers(7, 8))
	twin := plainWorld(nil, numbers(7, 8))
	for _, c := range []call{{kind: askAttempt}, {kind: askMake, a: 1, b: 0}} {
		if got, want := ask(p.w, c), twin.ask(c); got != want {
			t.Fatalf("%v = %v, want %v", c, got, want)
		}
	}
	good := []call{
		{kind: askLoad, a: 1}, {kind: askAcquire, a: 0, b: 0, c: 2}, {kind: askStatus, a: 0}, {kind: askKill, a: 1},
		{kind: askCommit, a: 1}, {kind: askFlag, a: 1}, {kind: askMark, a: 1, up: true}, {kind: askMark, a: 1},
	}
	refused := func() {
		t.Helper()
		for _, c := range good {
			// what the world itself refuses is told ahead of the memory's error
			want := twin.ask(c)
			if want.e == api.OK {
				t.Fatalf("the plain world lets %v", c)
			}
			if got := ask(p.w, c); got != want {
				t.Fatalf("%v = %v, want %v", c, got, want)
			}
		}
		for _, c := range []call{{kind: askLoad, a: 2}, {kind: askAcquire, a: 0, b: 0, c: 1}, {kind: askStatus, a: 9}, {kind: askKill}, {kind: askCommit}, {kind: askMark}} {
			if got, want := ask(p.w, c), twin.ask(c); got != want || got.e == api.ErrClosed {
				t.Fatalf("%v = %v, want %v", c, got, want)
			}
		}
		same(t, m, p.w, twin)
	}
	refused()
	for _, c := range []call{good[0], good[2], good[5], good[6], good[1], good[7], good[4], good[3]} {
		p.open()
		twin.closed = false
		if got, want := ask(p.w, c), twin.ask(c); got != want || got.e != api.OK {
			t.Fatalf("%v = %v, want %v", c, got, want)
		}
		refused()
	}
}

// A call that is refused leaves the open step its access; a call without an access does too.
func TestRefusalsLeaveTheStep(t *testing.T) {
	p := fresh(t, 7, 8)
	p.num(1, 0, askAttempt)
	p.num(2, 0, askMake, 1, 0)
	p.open()
	for _, c := range []call{
		{kind: askLoad, a: 2}, {kind: askAcquire, a: 2}, {kind: askAcquire, a: 0, b: 9, c: 2}, {kind: askAcquire, a: 0, b: 0, c: 1},
		{kind: askStatus, a: 2}, {kind: askKill}, {kind: askCommit, a: 7}, {kind: askFlag, a: -1}, {kind: askMark, a: 0, up: true},
	} {
		if got := ask(p.w, c); got.e == api.OK || got != (answer{e: got.e}) {
			t.Fatalf("%v = %v", c, got)
		}
	}
	for _, c := range []call{
		{kind: askAttempt}, {kind: askOwner, a: 2}, {kind: askMake, a: 2, b: 1}, {kind: askLocator, a: 3}, {kind: askVersion, a: 3}, {kind: askPut, a: 3},
		{kind: askCurrent, a: 3, b: api.Active}, {kind: askObjectCell, a: 1}, {kind: askStatusCell, a: 2}, {kind: askFlagCell, a: 2},
	} {
		if got := ask(p.w, c); got.e != api.OK {
			t.Fatalf("%v = %v", c, got)
		}
	}
	p.holds(7, 8)
	if len(p.m.Log()) != 0 || p.m.Took() != (api.Access{}) {
		t.Fatalf("rows without an access: %v", p.m.Log())
	}
	if done, e := p.w.Acquire(0, 0, 2); !done || e != api.OK {
		t.Fatalf("Acquire = %t, %d", done, e)
	}
}

// Cells of others stand ahead of the world's own and between them.
func TestCellsOfOthers(t *testing.T) {
	m := cell.New()
	for i := range 5 {
		m.Make(int64(i) - 2)
	}
	p := over(t, m, numbers(7, 8))
	twin := plainWorld([]int64{-2, -1, 0, 1, 2}, numbers(7, 8))
	same(t, m, p.w, twin)
	for att := 1; att <= 3; att++ {
		for range att {
			m.Make(44)
			twin.words = append(twin.words, 44)
		}
		for _, c := range []call{{kind: askAttempt, owner: api.Owner{Thread: att}}, {kind: askMake, a: att, b: 0}, {kind: askPut, a: 1 + att, value: api.Value{Num: int64(-att)}}, {kind: askAcquire, a: att % 2, b: att % 2, c: 1 + att}, {kind: askCommit, a: att}} {
			p.open()
			twin.closed = false
			if got, want := ask(p.w, c), twin.ask(c); got != want {
				t.Fatalf("%v = %v, want %v", c, got, want)
			}
		}
		same(t, m, p.w, twin)
	}
	p.num(10, 0, askStatusCell, 1)
	p.num(14, 0, askStatusCell, 2)
	p.num(20, 0, askFlagCell, 3)
}

// Two worlds in one memory have the same numbers of their own, and other cells.
func TestTwoWorlds(t *testing.T) {
	m := cell.New()
	a, b := over(t, m, numbers(1, 2)), over(t, m, numbers(3))
	a.num(1, 0, askAttempt)
	b.num(1, 0, askAttempt)
	b.num(2, 0, askAttempt)
	a.num(2, 0, askObjectCell, 0)
	b.num(4, 0, askStatusCell, 0)
	b.num(6, 0, askObjectCell, 0)
	a.num(7, 0, askStatusCell, 1)
	b.num(9, 0, askStatusCell, 1)
	a.num(0, api.ErrAttempt, askStatusCell, 2)
	a.num(2, 0, askMake, 1, 0)
	b.num(1, 0, askMake, 1, 0)
	b.num(2, 0, askMake, 2, 0)
	a.put(2, 10, 0)
	b.put(2, 30, 0)
	a.yes(true, 0, askAcquire, 0, 0, 2)
	b.step = a.step
	b.yes(true, 0, askAcquire, 0, 0, 2)
	b.yes(true, 0, askCommit, 2)
	a.holds(1, 2)
	b.holds(30)
	a.step = b.step
	a.num(api.Active, 0, askStatus, 1)
	a.yes(true, 0, askCommit, 1)
	a.mark(1, true, true, 0)
	b.step = a.step
	b.num(api.Active, 0, askStatus, 1)
	b.yes(false, 0, askFlag, 1)
	a.holds(10, 2)
	b.holds(30)
}

func TestTheZeroAndTheNilWorld(t *testing.T) {
	first := map[int]api.Errno{
		askAttempt: api.ErrRoom, askOwner: api.ErrAttempt, askMake: api.ErrAttempt, askLocator: api.ErrLocator, askVersion: api.ErrVersion,
		askPut: api.ErrLocator, askCurrent: api.ErrLocator, askLoad: api.ErrObject, askAcquire: api.ErrObject, askStatus: api.ErrAttempt,
		askKill: api.ErrAttempt, askCommit: api.ErrAttempt, askFlag: api.ErrAttempt, askMark: api.ErrAttempt,
		askObjectCell: api.ErrObject, askStatusCell: api.ErrAttempt, askFlagCell: api.ErrAttempt,
	}
	for _, w := range []*locator.World{nil, {}} {
		for kind := range asks {
			for _, n := range append([]int{0, 1, 2, 3}, none...) {
				for _, up := range []bool{false, true} {
					c := call{kind: kind, a: n, b: n, c: n, up: up}
					if got := ask(w, c); got != (answer{e: first[kind]}) {
						t.Fatalf("%v = %v, want %d", c, got, first[kind])
					}
				}
			}
		}
		if w.Objects() != 0 || len(w.Committed()) != 0 {
			t.Errorf("%d objects, Committed = %v", w.Objects(), w.Committed())
		}
	}
}

func TestListsAreNeitherKeptNorShared(t *testing.T) {
	values := []api.Value{{Num: 1, Next: 2, Dead: true}, {Num: math.MinInt64, Next: math.MaxInt}, {Num: math.MaxInt64, Next: math.MinInt}}
	want := slices.Clone(values)
	p := over(t, cell.New(), values)
	if !slices.Equal(values, want) {
		t.Fatalf("New changed its list: %v", values)
	}
	clear(values)
	got := p.w.Committed()
	if !slices.Equal(got, want) {
		t.Fatalf("Committed = %v, want %v", got, want)
	}
	for i := range got {
		got[i] = api.Value{Num: 99}
	}
	_ = append(got[:1:cap(got)], api.Value{Num: 98})
	if again := p.w.Committed(); !slices.Equal(again, want) {
		t.Errorf("a list that was handed out is the world's own: %v", again)
	}
	for i, v := range want {
		p.is(call{kind: askVersion, a: i}, answer{value: v})
	}
	p.num(1, 0, askAttempt)
	p.num(3, 0, askMake, 1, 0)
	p.is(call{kind: askVersion, a: 3}, answer{value: want[0]})
	p.is(call{kind: askPut, a: 3, value: want[2]}, answer{})
	p.is(call{kind: askVersion, a: 3}, answer{value: want[2]})
	p.is(call{kind: askVersion, a: 0}, answer{value: want[0]})
}

// Where others have written into the world's cells, its calls end.
func TestCellsThatOthersWrote(t *testing.T) {
	for _, garbage := range []int64{math.MinInt64, -1, 0, 1, 2, 3, 4, 16384, math.MaxInt64} {
		p := fresh(t, 7, 8)
		p.num(1, 0, askAttempt)
		p.num(2, 0, askMake, 1, 0)
		for c := range p.m.Size() {
			held, _ := p.m.Peek(c)
			p.open()
			p.m.Swap(c, held, garbage)
		}
		for kind := range asks {
			for a := range 3 {
				p.open()
				ask(p.w, call{kind: kind, a: a, b: a, c: 2})
				if len(p.w.Committed()) != 2 {
					t.Fatal("Committed has not two values")
				}
			}
		}
	}
}
