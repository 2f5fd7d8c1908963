package locator_test

import (
	"slices"
	"testing"

	"braid/api"
	"braid/cell"
	"braid/locator"
)

// The calls of a world.
const (
	askAttempt = iota
	askOwner
	askMake
	askLocator
	askVersion
	askPut
	askCurrent
	askLoad
	askAcquire
	askStatus
	askKill
	askCommit
	askFlag
	askMark
	askObjectCell
	askStatusCell
	askFlagCell
	asks // how many there are
)

// call is a call with all that it may be given.
type call struct {
	kind    int
	a, b, c int
	up      bool
	owner   api.Owner
	value   api.Value
}

// answer is all that a call may answer.
type answer struct {
	num   int
	yes   bool
	owner api.Owner
	loc   api.Locator
	value api.Value
	e     api.Errno
}

// isAccess tells whether a call of that kind has an access.
func isAccess(kind int) bool { return kind >= askLoad && kind <= askMark }

func ask(w *locator.World, c call) answer {
	var r answer
	switch c.kind {
	case askAttempt:
		r.num, r.e = w.Attempt(c.owner)
	case askOwner:
		r.owner, r.e = w.Owner(c.a)
	case askMake:
		r.num, r.e = w.Make(c.a, c.b)
	case askLocator:
		r.loc, r.e = w.Locator(c.a)
	case askVersion:
		r.value, r.e = w.Version(c.a)
	case askPut:
		r.e = w.Put(c.a, c.value)
	case askCurrent:
		r.num, r.e = w.Current(c.a, c.b)
	case askLoad:
		r.num, r.e = w.Load(c.a)
	case askAcquire:
		r.yes, r.e = w.Acquire(c.a, c.b, c.c)
	case askStatus:
		r.num, r.e = w.Status(c.a)
	case askKill:
		r.yes, r.e = w.Kill(c.a)
	case askCommit:
		r.yes, r.e = w.Commit(c.a)
	case askFlag:
		r.yes, r.e = w.Flag(c.a)
	case askMark:
		r.yes, r.e = w.Mark(c.a, c.up)
	case askObjectCell:
		r.num, r.e = w.ObjectCell(c.a)
	case askStatusCell:
		r.num, r.e = w.StatusCell(c.a)
	case askFlagCell:
		r.num, r.e = w.FlagCell(c.a)
	}
	return r
}

// plainAttempt is an attempt of a plain world.
type plainAttempt struct {
	owner        api.Owner
	status, flag int
}

// plain is a world that keeps the memory's words itself, and the errors that apply in the order of their numbers.
type plain struct {
	words    []int64
	closed   bool
	rows     []api.Access
	objects  []int
	tries    []plainAttempt
	locators []api.Locator
	versions []api.Value
	laid     []int // the locators that have been in a cell
}

// plainWorld lays a plain world behind the words that a memory has already.
func plainWorld(words []int64, values []api.Value) *plain {
	p := &plain{words: slices.Clone(words), closed: true}
	p.tries = []plainAttempt{{api.Owner{Thread: -1, Stamp: -1, Priority: -1}, len(words), len(words) + 1}}
	p.words = append(p.words, api.Committed, 0)
	for o, v := range values {
		p.objects = append(p.objects, len(p.words))
		p.words = append(p.words, int64(o))
		p.locators = append(p.locators, api.Locator{Owner: 0, Old: o, New: o})
		p.versions = append(p.versions, v)
		p.laid = append(p.laid, o)
	}
	return p
}

func place[T any](list []T, n int) (T, bool) {
	if n < 0 || n >= len(list) {
		var none T
		return none, false
	}
	return list[n], true
}

// reason is an error and whether it applies.
type reason struct {
	e     api.Errno
	holds bool
}

// refuse answers the first error that applies.
func refuse(list ...reason) answer {
	for _, r := range list {
		if r.holds {
			return answer{e: r.e}
		}
	}
	return answer{}
}

func (p *plain) status(att int) int64 { return p.words[p.tries[att].status] }

// settled tells whether a version is nobody's New but those of attempts that have committed.
func (p *plain) settled(ver int) bool {
	for _, l := range p.locators {
		if l.New == ver && p.status(l.Owner) != api.Committed {
			return false
		}
	}
	return true
}

// load and swap work on the words, with the row that the memory is to have.
func (p *plain) load(c int) int64 {
	p.row(api.AccLoad, c, p.words[c], true)
	return p.words[c]
}

func (p *plain) swap(c int, old, next int64) bool {
	done := p.words[c] == old
	wrote := p.words[c]
	if done {
		wrote = next
	}
	p.row(api.AccSwap, c, wrote, done)
	p.words[c] = wrote
	return done
}

func (p *plain) row(kind, c int, wrote int64, done bool) {
	p.rows = append(p.rows, api.Access{Kind: kind, Cell: c, Seen: p.words[c], Wrote: wrote, Done: done})
	p.closed = true
}

// why tells the error with which a call is refused.
func (p *plain) why(c call) answer {
	_, object := place(p.objects, c.a)
	_, attempt := place(p.tries, c.a)
	made := attempt && c.a != 0
	l, loc := place(p.locators, c.a)
	closed := reason{api.ErrClosed, p.closed}
	switch c.kind {
	case askAttempt:
		return refuse(reason{api.ErrRoom, len(p.tries) == 16384 || len(p.words) > 65534})
	case askOwner, askStatusCell, askFlagCell:
		return refuse(reason{api.ErrAttempt, !attempt})
	case askMake:
		_, ver := place(p.versions, c.b)
		return refuse(reason{api.ErrAttempt, !made}, reason{api.ErrVersion, !ver || !p.settled(c.b)}, reason{api.ErrRoom, len(p.locators) == 16384})
	case askLocator:
		return refuse(reason{api.ErrLocator, !loc})
	case askVersion:
		_, ver := place(p.versions, c.a)
		return refuse(reason{api.ErrVersion, !ver})
	case askPut:
		return refuse(reason{api.ErrLocator, !loc}, reason{api.ErrOwner, l.Owner == 0}, reason{api.ErrDone, p.status(l.Owner) == api.Committed})
	case askCurrent:
		return refuse(reason{api.ErrLocator, !loc}, reason{api.ErrStatus, c.b < 1 || c.b > 3})
	case askLoad:
		return refuse(reason{api.ErrObject, !object}, closed)
	case askAcquire:
		_, have := place(p.locators, c.b)
		n, next := place(p.locators, c.c)
		return refuse(reason{api.ErrObject, !object}, reason{api.ErrLocator, !have || !next}, reason{api.ErrUsed, slices.Contains(p.laid, c.c)}, reason{api.ErrDone, p.status(n.Owner) == api.Committed}, closed)
	case askStatus, askFlag:
		return refuse(reason{api.ErrAttempt, !attempt}, closed)
	case askKill, askCommit, askMark:
		return refuse(reason{api.ErrAttempt, !made}, closed)
	}
	return refuse(reason{api.ErrObject, !object})
}

func (p *plain) ask(c call) answer {
	r := p.why(c)
	if r.e != api.OK {
		return r
	}
	switch c.kind {
	case askAttempt:
		r.num = len(p.tries)
		p.tries = append(p.tries, plainAttempt{c.owner, len(p.words), len(p.words) + 1})
		p.words = append(p.words, api.Active, 0)
	case askOwner:
		r.owner = p.tries[c.a].owner
	case askMake:
		r.num = len(p.locators)
		p.locators = append(p.locators, api.Locator{Owner: c.a, Old: c.b, New: len(p.versions)})
		p.versions = append(p.versions, p.versions[c.b])
	case askLocator:
		r.loc = p.locators[c.a]
	case askVersion:
		r.value = p.versions[c.a]
	case askPut:
		p.versions[p.locators[c.a].New] = c.value
	case askCurrent:
		r.num = p.locators[c.a].Old
		if c.b == api.Committed {
			r.num = p.locators[c.a].New
		}
	case askLoad:
		r.num = int(p.load(p.objects[c.a]))
	case askAcquire:
		r.yes = p.swap(p.objects[c.a], int64(c.b), int64(c.c))
		if r.yes {
			p.laid = append(p.laid, c.c)
		}
	case askStatus:
		r.num = int(p.load(p.tries[c.a].status))
	case askKill:
		r.yes = p.swap(p.tries[c.a].status, api.Active, api.Aborted)
	case askCommit:
		r.yes = p.swap(p.tries[c.a].status, api.Active, api.Committed)
	case askFlag:
		r.yes = p.load(p.tries[c.a].flag) == 1
	case askMark:
		if c.up {
			r.yes = p.swap(p.tries[c.a].flag, 0, 1)
		} else {
			r.yes = p.swap(p.tries[c.a].flag, 1, 0)
		}
	case askObjectCell:
		r.num = p.objects[c.a]
	case askStatusCell:
		r.num = p.tries[c.a].status
	case askFlagCell:
		r.num = p.tries[c.a].flag
	}
	return r
}

// committed tells the committed values by the words as they are.
func (p *plain) committed() []api.Value {
	var values []api.Value
	for _, c := range p.objects {
		l := p.locators[p.words[c]]
		v := p.versions[l.Old]
		if p.status(l.Owner) == api.Committed {
			v = p.versions[l.New]
		}
		values = append(values, v)
	}
	return values
}

// same holds all that can be seen of a world and its memory against a plain one.
func same(t *testing.T, m *cell.Memory, w *locator.World, p *plain) {
	t.Helper()
	if m.Size() != len(p.words) {
		t.Fatalf("the memory has %d cells, want %d", m.Size(), len(p.words))
	}
	for c, want := range p.words {
		if n, e := m.Peek(c); n != want || e != api.OK {
			t.Fatalf("cell %d holds %d, want %d", c, n, want)
		}
	}
	rows := m.Log()
	for i := range rows {
		rows[i].Step, rows[i].Thread = 0, 0
	}
	if !slices.Equal(rows, p.rows) {
		t.Fatalf("the log is %v, want %v", rows, p.rows)
	}
	if got, want := w.Committed(), p.committed(); w.Objects() != len(p.objects) || !slices.Equal(got, want) {
		t.Fatalf("of %d objects Committed = %v, want %v", w.Objects(), got, want)
	}
	for _, kind := range []int{askOwner, askLocator, askVersion, askObjectCell, askStatusCell, askFlagCell} {
		for n := -1; n <= max(len(p.tries), len(p.locators)); n++ {
			c := call{kind: kind, a: n}
			if got, want := ask(w, c), p.ask(c); got != want {
				t.Fatalf("%v = %v, want %v", c, got, want)
			}
		}
	}
}
