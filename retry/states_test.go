package retry_test

import (
	"fmt"
	"testing"

	"braid/api"
	"braid/fixture"
	"braid/retry"
)

// state is a state, and a way to it.
type state struct {
	name string
	is   int
	to   func(f *floor) *retry.Transaction
}

// full makes an open transaction whose attempt has read object 0 and owns object 1.
func (f *floor) full() *retry.Transaction {
	f.Helper()
	x := f.begun(3, 6)
	f.run(x, x.Read(0))
	f.run(x, x.Write(1))
	f.ok(x.Put(1, api.Value{Num: 80}))
	return x
}

// overtaken has another transaction commit a new value of an object.
func (f *floor) overtaken(object int, num int64) {
	f.Helper()
	y := f.begun(8, 8)
	f.run(y, y.Write(object))
	f.ok(y.Put(object, api.Value{Num: num}))
	if r := f.run(y, y.Finish()); r.End != api.EndCommit {
		f.Fatalf("%q", fixture.Row(r))
	}
}

// quits asks for an end and takes its one step.
func (f *floor) quits(x *retry.Transaction, why int) *retry.Transaction {
	f.Helper()
	f.run(x, x.Quit(why))
	return x
}

var states = []state{
	{"not begun", api.StateFresh, func(f *floor) *retry.Transaction { return f.fresh(3, 6) }},
	{"killed", api.StateFresh, func(f *floor) *retry.Transaction {
		x := f.full()
		f.fails(x)
		return x
	}},
	{"stale", api.StateFresh, func(f *floor) *retry.Transaction {
		x := f.full()
		f.overtaken(0, 70)
		if r := f.run(x, x.Finish()); r.End != api.EndStale {
			f.Fatalf("%q", fixture.Row(r))
		}
		return x
	}},
	{"open", api.StateOpen, func(f *floor) *retry.Transaction { return f.full() }},
	{"open again", api.StateOpen, func(f *floor) *retry.Transaction {
		x := f.begun(3, 6)
		f.fails(x)
		f.again(x)
		f.run(x, x.Read(0))
		f.run(x, x.Write(1))
		return x
	}},
	{"open and killed", api.StateOpen, func(f *floor) *retry.Transaction {
		x := f.full()
		f.killed(x)
		return x
	}},
	{"asked for a read", api.StateBusy, func(f *floor) *retry.Transaction {
		x := f.full()
		f.ok(x.Read(0))
		return x
	}},
	{"asked for a commit", api.StateBusy, func(f *floor) *retry.Transaction {
		x := f.full()
		f.ok(x.Finish())
		return x
	}},
	{"asked for a quit", api.StateBusy, func(f *floor) *retry.Transaction {
		x := f.full()
		f.ok(x.Quit(api.EndBad))
		return x
	}},
	{"in a commit", api.StateBusy, func(f *floor) *retry.Transaction {
		x := f.full()
		f.ok(x.Finish())
		f.step(x)
		return x
	}},
	{"committed", api.StateOver, func(f *floor) *retry.Transaction {
		x := f.full()
		f.run(x, x.Finish())
		return x
	}},
	{"given up", api.StateOver, func(f *floor) *retry.Transaction { return f.quits(f.full(), api.EndUser) }},
	{"gone bad", api.StateOver, func(f *floor) *retry.Transaction { return f.quits(f.full(), api.EndBad) }},
	{"given up again", api.StateOver, func(f *floor) *retry.Transaction {
		x := f.full()
		f.fails(x)
		f.again(x)
		return f.quits(x, api.EndUser)
	}},
}

// call is one call, and what an open attempt answers to it that has read object 0 and owns object 1: the error, or OK
// and the state behind it.
type call struct {
	name   string
	do     func(x *retry.Transaction) (int, api.Errno)
	opens  api.Errno
	number int
	state  int
}

func asks(do func(x *retry.Transaction) api.Errno) func(x *retry.Transaction) (int, api.Errno) {
	return func(x *retry.Transaction) (int, api.Errno) { return 0, do(x) }
}

func calls() []call {
	list := []call{
		{"Read(0)", asks(func(x *retry.Transaction) api.Errno { return x.Read(0) }), api.OK, 0, api.StateBusy},
		{"Read(1)", asks(func(x *retry.Transaction) api.Errno { return x.Read(1) }), api.OK, 0, api.StateBusy},
		{"Write(0)", asks(func(x *retry.Transaction) api.Errno { return x.Write(0) }), api.OK, 0, api.StateBusy},
		{"Write(1)", asks(func(x *retry.Transaction) api.Errno { return x.Write(1) }), api.OK, 0, api.StateBusy},
		{"Put(0)", asks(func(x *retry.Transaction) api.Errno { return x.Put(0, api.Value{Num: 5}) }), api.ErrNotOwn, 0, 0},
		{"Put(1)", asks(func(x *retry.Transaction) api.Errno { return x.Put(1, api.Value{Num: 5}) }), api.OK, 0, api.StateOpen},
		{"Release(0)", func(x *retry.Transaction) (int, api.Errno) { return x.Release(0) }, api.OK, 0, api.StateOpen},
		{"Release(1)", func(x *retry.Transaction) (int, api.Errno) { return x.Release(1) }, api.OK, -1, api.StateOpen},
		{"Finish", asks(func(x *retry.Transaction) api.Errno { return x.Finish() }), api.OK, 0, api.StateBusy},
		{"Quit(EndUser)", asks(func(x *retry.Transaction) api.Errno { return x.Quit(api.EndUser) }), api.OK, 0, api.StateBusy},
		{"Quit(EndBad)", asks(func(x *retry.Transaction) api.Errno { return x.Quit(api.EndBad) }), api.OK, 0, api.StateBusy},
	}
	for _, why := range append(far, api.EndNone, api.EndCommit, api.EndStale, api.EndKilled, 6) {
		list = append(list, call{fmt.Sprintf("Quit(%d)", why),
			asks(func(x *retry.Transaction) api.Errno { return x.Quit(why) }), api.ErrWhy, 0, 0})
	}
	for _, o := range append(far, 2, 3) {
		list = append(list,
			call{fmt.Sprintf("Read(%d)", o), asks(func(x *retry.Transaction) api.Errno { return x.Read(o) }), api.ErrObject, 0, 0},
			call{fmt.Sprintf("Write(%d)", o), asks(func(x *retry.Transaction) api.Errno { return x.Write(o) }), api.ErrObject, 0, 0},
			call{fmt.Sprintf("Put(%d)", o), asks(func(x *retry.Transaction) api.Errno { return x.Put(o, api.Value{}) }), api.ErrObject, 0, 0},
			call{fmt.Sprintf("Release(%d)", o), func(x *retry.Transaction) (int, api.Errno) { return x.Release(o) }, api.ErrObject, 0, 0})
	}
	return list
}

// Each state with each call: the state's own error comes ahead of what is wrong with the call.
func TestAsking(t *testing.T) {
	for _, s := range states {
		for _, c := range calls() {
			for kind := range api.Managers {
				f := lay(t, kind, 5)
				x := s.to(f)
				if x.State() != s.is {
					t.Fatalf("%s: state %d", s.name, x.State())
				}
				want := [...]api.Errno{api.StateFresh: api.ErrFresh, api.StateOpen: c.opens, api.StateBusy: api.ErrBusy, api.StateOver: api.ErrOver}[s.is]
				f.asked(x, s.name+": "+c.name, c, want)
			}
		}
	}
}

// asked does a call and holds it against what is wanted of it.
func (f *floor) asked(x *retry.Transaction, name string, c call, want api.Errno) {
	f.Helper()
	if want != api.OK {
		f.unmoved(x, func() {
			f.Helper()
			if n, e := c.do(x); n != 0 || e != want {
				f.Fatalf("%s = %d, %d, want %d", name, n, e, want)
			}
		})
		return
	}
	all, expect := aroundOf(f.s), sightOf(x, 2)
	expect.state = c.state
	if c.name == "Release(0)" {
		expect.reads--
	}
	if n, e := c.do(x); n != c.number || e != api.OK {
		f.Fatalf("%s = %d, %d, want %d", name, n, e, c.number)
	}
	f.tells(x, expect)
	if now := aroundOf(f.s); now != all {
		f.Fatalf("%s: from %+v to %+v", name, all, now)
	}
}

// Each state with Step, within an open step: who has none to take leaves the step its access.
func TestStepInEachState(t *testing.T) {
	for _, s := range states {
		f := lay(t, api.Polite, 5)
		x := s.to(f)
		f.open()
		want := [...]api.Errno{api.StateFresh: api.OK, api.StateOpen: api.ErrIdle, api.StateBusy: api.OK, api.StateOver: api.ErrOver}[s.is]
		if want != api.OK {
			f.unmoved(x, func() {
				if r, e := x.Step(); r != (api.Row{}) || e != want {
					t.Errorf("%s: Step = %+v, %d, want %d", s.name, r, e, want)
				}
			})
			continue
		}
		tries := x.Tries()
		r, e := x.Step()
		if e != api.OK || r.Thread != 3 || r.Job != 6 || r.Try != x.Tries() || r.Attempt != x.Number() || r.Step != 0 {
			t.Errorf("%s: Step = %+v, %d", s.name, r, e)
		}
		if begins := r.Kind == api.RowBegin || r.Kind == api.RowAgain; begins != (s.is == api.StateFresh) || begins != (x.Tries() == tries+1) {
			t.Errorf("%s: %q, tries from %d to %d", s.name, fixture.Row(r), tries, x.Tries())
		}
	}
}

// Behind an outcome nothing of the transaction changes any more, whatever it is asked for and whatever others do.
func TestOver(t *testing.T) {
	outcomes := map[string]int{"committed": api.EndCommit, "given up": api.EndUser, "gone bad": api.EndBad, "given up again": api.EndUser}
	for _, s := range states {
		if s.is != api.StateOver {
			continue
		}
		f := lay(t, api.Karma, 5)
		x := s.to(f)
		want := sight{state: api.StateOver, outcome: outcomes[s.name], tries: 1, rank: 2, number: 1, thread: 3, job: 6, reads: 1, owns: "1"}
		if s.name == "given up again" {
			want.tries, want.number, want.reads, want.owns = 2, 2, 0, ""
		}
		f.tells(x, want)
		for _, c := range calls() {
			if n, e := c.do(x); n != 0 || e != api.ErrOver {
				t.Fatalf("%s: %s = %d, %d", s.name, c.name, n, e)
			}
		}
		f.overtaken(0, 70)
		f.overtaken(1, 90)
		for range 3 {
			f.open()
			if r, e := x.Step(); r != (api.Row{}) || e != api.ErrOver {
				t.Fatalf("%s: Step = %+v, %d", s.name, r, e)
			}
		}
		f.tells(x, want)
		if _, held := f.priority(x); held != 2 {
			t.Errorf("%s: the priority cell holds %d", s.name, held)
		}
		f.committed(70, 90)
	}
}

// What a transaction leaves in the objects: what it put, if it commits, and nothing else.
func TestWhatIsLeft(t *testing.T) {
	left := map[string][]int64{"committed": {7, 80}, "stale": {70, 8}}
	for _, s := range states {
		f := lay(t, api.Polite, 5)
		s.to(f)
		want, ok := left[s.name]
		if !ok {
			want = []int64{7, 8}
		}
		f.committed(want...)
	}
}
