package locator_test

import (
	"fmt"
	"slices"
	"testing"

	"braid/api"
	"braid/cell"
	"braid/locator"
)

// dice gives the same numbers at every run.
type dice uint64

func (d *dice) below(n int) int {
	*d ^= *d << 13
	*d ^= *d >> 7
	*d ^= *d << 17
	return int(uint64(*d) % uint64(n))
}

// number gives a number of a list of that many, now and then one beside it.
func (d *dice) number(count int) int {
	switch d.below(12) {
	case 0:
		return -1
	case 1:
		return count
	}
	return d.below(count)
}

// throw gives a call that has something to do more often than not.
func (d *dice) throw(p *plain) call {
	c := call{kind: d.below(asks), up: d.below(2) == 0}
	if c.kind == askAttempt && len(p.tries) > 8 {
		c.kind = askAcquire
	}
	switch c.kind {
	case askMake:
		c.a, c.b = d.number(len(p.tries)), d.number(len(p.versions))
	case askLocator, askVersion:
		c.a = d.number(len(p.locators))
	case askPut:
		c.a = d.number(len(p.locators))
		c.value = api.Value{Num: int64(d.below(1000)), Next: d.below(9), Dead: d.below(2) == 0}
	case askCurrent:
		c.a, c.b = d.number(len(p.locators)), d.below(5)
	case askLoad, askObjectCell:
		c.a = d.number(len(p.objects))
	case askAcquire:
		c.a, c.b, c.c = d.number(len(p.objects)), d.number(len(p.locators)), d.number(len(p.locators))
		if c.a >= 0 && c.a < len(p.objects) && d.below(4) > 0 {
			c.b = int(p.words[p.objects[c.a]])
		}
	default:
		c.a = d.number(len(p.tries))
		c.owner = api.Owner{Thread: d.below(6), Stamp: int64(d.below(50)), Priority: d.below(9) - 1}
	}
	return c
}

// current tells the current version of an object, seen from outside.
func current(t *testing.T, m *cell.Memory, w *locator.World, obj int) int {
	t.Helper()
	c, _ := w.ObjectCell(obj)
	held, _ := m.Peek(c)
	l, _ := w.Locator(int(held))
	c, _ = w.StatusCell(l.Owner)
	status, _ := m.Peek(c)
	ver, e := w.Current(int(held), int(status))
	if e != api.OK {
		t.Fatalf("Current(%d, %d) = %d", held, status, e)
	}
	return ver
}

// changed tells what the committed values are to be behind a call, by the words of 'One Swap'.
func changed(m *cell.Memory, w *locator.World, c call, r answer, before []api.Value) []api.Value {
	values := slices.Clone(before)
	if !r.yes {
		return values
	}
	if c.kind == askAcquire {
		l, _ := w.Locator(c.c)
		values[c.a], _ = w.Version(l.Old)
	}
	if c.kind == askCommit {
		for o := range values {
			at, _ := w.ObjectCell(o)
			held, _ := m.Peek(at)
			if l, _ := w.Locator(int(held)); l.Owner == c.a {
				values[o], _ = w.Version(l.New)
			}
		}
	}
	return values
}

// neverAgain looks that no object's cell takes a number twice, and that no status changes twice.
func neverAgain(t *testing.T, m *cell.Memory, w *locator.World, attempts int) {
	t.Helper()
	taken := map[int][]int64{}
	for o := range w.Objects() {
		c, _ := w.ObjectCell(o)
		taken[c] = []int64{int64(o)}
	}
	statuses := map[int]int{}
	for att := range attempts {
		c, _ := w.StatusCell(att)
		statuses[c] = 0
	}
	for _, row := range m.Log() {
		if row.Kind != api.AccSwap || !row.Done {
			continue
		}
		if list, ok := taken[row.Cell]; ok {
			if slices.Contains(list, row.Wrote) {
				t.Fatalf("the locator %d came again: %v", row.Wrote, row)
			}
			taken[row.Cell] = append(list, row.Wrote)
		}
		if count, ok := statuses[row.Cell]; ok {
			if count > 0 {
				t.Fatalf("a status changed again: %v", row)
			}
			statuses[row.Cell]++
		}
	}
}

// Any calls in any order, in steps and out of steps, beside a plain world; what holds of every play by its words.
func TestPlaysBesideAPlainWorld(t *testing.T) {
	d := dice(88172645463325252)
	seen := map[string]int{}
	for range 120 {
		m := cell.New()
		var words []int64
		for range d.below(4) {
			words = append(words, int64(d.below(5)))
			m.Make(words[len(words)-1])
		}
		var values []api.Value
		for range 1 + d.below(4) {
			values = append(values, api.Value{Num: int64(d.below(100))})
		}
		w := over(t, m, values).w
		p := plainWorld(words, values)
		for step := range 150 {
			if d.below(10) > 0 {
				m.Begin(step, 0)
				p.closed = false
			}
			if d.below(12) == 0 {
				n := int64(d.below(9))
				m.Make(n)
				p.words = append(p.words, n)
			}
			c := d.throw(p)
			before := w.Committed()
			want := p.ask(c)
			got := ask(w, c)
			if got != want {
				t.Fatalf("%v = %v, want %v", c, got, want)
			}
			seen[fmt.Sprint(c.kind, got.e, got.yes)]++
			if after := w.Committed(); !slices.Equal(after, changed(m, w, c, got, before)) {
				t.Fatalf("%v = %v made of %v the values %v", c, got, before, after)
			}
			if step%10 == 0 {
				same(t, m, w, p)
			}
		}
		same(t, m, w, p)
		neverAgain(t, m, w, len(p.tries))
	}
	for kind := range asks {
		if isAccess(kind) && seen[fmt.Sprint(kind, api.ErrClosed, false)] == 0 {
			t.Errorf("no play has the call %d in a closed step", kind)
		}
	}
	for _, e := range []api.Errno{api.ErrObject, api.ErrLocator, api.ErrUsed, api.ErrDone, api.OK, api.ErrClosed} {
		if seen[fmt.Sprint(askAcquire, e, false)] == 0 {
			t.Errorf("no play has an Acquire with the answer false, %d", e)
		}
	}
	for _, kind := range []int{askAcquire, askKill, askCommit, askMark, askFlag} {
		if seen[fmt.Sprint(kind, api.OK, true)] == 0 {
			t.Errorf("no play has the call %d with the answer true", kind)
		}
	}
}

// look is a Load that was answered, and the moment of it.
type look struct {
	obj, loc, at int
}

// orderly is a play in which a locator is laid over the current version alone, and never on an Active owner.
type orderly struct {
	*play
	d       dice
	history [][]int // behind each moment, the current version of each object
	looks   []look
}

func (o *orderly) moment() {
	var versions []int
	for obj := range o.w.Objects() {
		versions = append(versions, current(o.T, o.m, o.w, obj))
	}
	o.history = append(o.history, versions)
}

// acquire lays a locator of an attempt where that is orderly now.
func (o *orderly) acquire(att, obj int) {
	c, _ := o.w.ObjectCell(obj)
	held, _ := o.m.Peek(c)
	l, _ := o.w.Locator(int(held))
	c, _ = o.w.StatusCell(l.Owner)
	if status, _ := o.m.Peek(c); status == api.Active {
		return
	}
	next, e := o.w.Make(att, current(o.T, o.m, o.w, obj))
	if e != api.OK {
		o.Fatalf("Make over the current version = %d", e)
	}
	o.w.Put(next, api.Value{Num: int64(next)})
	o.open()
	o.w.Acquire(obj, int(held), next)
}

// second takes the second look of a first one, and holds both against the history. It tells the status.
func (o *orderly) second(l look) int {
	said, _ := o.w.Locator(l.loc)
	o.open()
	status, e := o.w.Status(said.Owner)
	if e != api.OK {
		o.Fatalf("Status = %d", e)
	}
	o.moment()
	ver, _ := o.w.Current(l.loc, status)
	now := len(o.history) - 1
	found := false
	for _, versions := range o.history[l.at:] {
		found = found || versions[l.obj] == ver
	}
	if !found {
		o.Fatalf("version %d of object %d was never current from %d to %d", ver, l.obj, l.at, now)
	}
	c, _ := o.w.ObjectCell(l.obj)
	held, _ := o.m.Peek(c)
	still := status == api.Active || status == api.Committed && int(held) == l.loc
	if still && o.history[now][l.obj] != ver {
		o.Fatalf("version %d of object %d is no longer current, with the status %d", ver, l.obj, status)
	}
	return status
}

func TestTwoLooks(t *testing.T) {
	d := dice(362436069)
	statuses := map[int]int{}
	for range 150 {
		o := &orderly{play: fresh(t, 1, 2, 3), d: d}
		attempts := 1
		o.moment()
		for range 120 {
			att := o.d.below(attempts)
			switch o.d.below(7) {
			case 0:
				o.w.Attempt(api.Owner{})
				attempts++
			case 1:
				o.open()
				o.w.Commit(att)
			case 2:
				o.open()
				o.w.Kill(att)
			case 3, 4:
				if c, _ := o.w.StatusCell(att); att > 0 {
					if status, _ := o.m.Peek(c); status != api.Committed {
						o.acquire(att, o.d.below(3))
					}
				}
			case 5:
				obj := o.d.below(3)
				o.open()
				loc, _ := o.w.Load(obj)
				o.moment()
				o.looks = append(o.looks, look{obj, loc, len(o.history) - 1})
			case 6:
				if len(o.looks) > 0 {
					i := o.d.below(len(o.looks))
					statuses[o.second(o.looks[i])]++
					o.looks = slices.Delete(o.looks, i, i+1)
				}
			}
			o.moment()
		}
		neverAgain(t, o.m, o.w, attempts)
		d = o.d
	}
	for _, status := range []int{api.Active, api.Committed, api.Aborted} {
		if statuses[status] == 0 {
			t.Errorf("no second look told the status %d", status)
		}
	}
}
