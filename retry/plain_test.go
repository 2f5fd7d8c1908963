package retry_test

import (
	"fmt"
	"slices"
	"strings"

	"braid/api"
	"braid/txn"
)

// plain is a transaction as the chapter tells it, which keeps all its attempts, and what happened to it one behind the
// other; all that it tells it works out of that.
type plain struct {
	s           txn.Scene
	clock       int
	thread, job int
	attempts    []*txn.Attempt
	own         api.Owner
	events      []event
	asked       bool // an operation is under way
}

// event is a row, or a release that took an entry out of the table.
type event struct {
	api.Row
	released bool
}

// last tells the last row's kind and end.
func (p *plain) last() (kind, end int) {
	for _, v := range slices.Backward(p.events) {
		if !v.released {
			return v.Kind, v.End
		}
	}
	return api.RowStutter, api.EndNone
}

func (p *plain) state() int {
	kind, end := p.last()
	switch {
	case end == api.EndCommit || end == api.EndUser || end == api.EndBad:
		return api.StateOver
	case end != api.EndNone || kind == api.RowStutter:
		return api.StateFresh
	case p.asked:
		return api.StateBusy
	}
	return api.StateOpen
}

// sight goes through all that happened.
func (p *plain) sight() sight {
	s := sight{state: p.state(), stamp: -1, number: -1, thread: p.thread, job: p.job}
	table, owns := map[int]bool{}, map[int]bool{}
	for _, v := range p.events {
		switch {
		case v.released:
			delete(table, v.Object)
		case v.Kind == api.RowBegin || v.Kind == api.RowAgain:
			s.tries++
			s.number = v.Attempt
			clear(table)
			clear(owns)
		case v.Kind == api.RowAcquire && v.Done:
			owns[v.Object] = true
			delete(table, v.Object)
		case v.Kind == api.RowBoost:
			s.rank++
		}
		if v.Kind == api.RowBegin {
			s.stamp = v.Seen
		}
		if v.Told && v.Phase == api.PhaseRead && !owns[v.Object] {
			table[v.Object] = true
		}
		if v.End != api.EndStale && v.End != api.EndKilled && v.End != api.EndNone {
			s.outcome = v.End
		}
	}
	s.reads = len(table)
	for o := range 10 {
		if owns[o] {
			s.owns += fmt.Sprint(o, " ")
		}
	}
	s.owns = strings.TrimSpace(s.owns)
	return s
}

// ask hands on what an attempt that stands is asked for; begins says that it is an operation.
func (p *plain) ask(begins bool, do func(a *txn.Attempt) (int, api.Errno)) (int, api.Errno) {
	switch p.state() {
	case api.StateOver:
		return 0, api.ErrOver
	case api.StateFresh:
		return 0, api.ErrFresh
	}
	n, e := do(p.attempts[len(p.attempts)-1])
	if begins && e == api.OK {
		p.asked = true
	}
	return n, e
}

func (p *plain) release(x int) (int, api.Errno) {
	n, e := p.ask(false, func(a *txn.Attempt) (int, api.Errno) { return a.Release(x) })
	if e == api.OK && n >= 0 {
		p.events = append(p.events, event{api.Row{Object: x}, true})
	}
	return n, e
}

func (p *plain) step() (api.Row, api.Errno) {
	var r api.Row
	var e api.Errno
	switch p.state() {
	case api.StateOver:
		return r, api.ErrOver
	case api.StateOpen:
		return r, api.ErrIdle
	case api.StateBusy:
		a := p.attempts[len(p.attempts)-1]
		if r, e = a.Step(); e != api.OK {
			return r, e
		}
		p.asked = a.State() == api.StateBusy
	default:
		if r, e = p.begins(); e != api.OK {
			return r, e
		}
	}
	r.Job, r.Try = p.job, len(p.attempts)
	p.events = append(p.events, event{r, false})
	return r, api.OK
}

// begins makes the first attempt, or the next one.
func (p *plain) begins() (api.Row, api.Errno) {
	r := api.Row{Thread: p.thread, Kind: api.RowAgain, Object: -1, Entry: -1, Enemy: -1, Cell: -1}
	if len(p.attempts) == 0 {
		stamp, e := p.s.Memory.Add(p.clock, 1)
		if e != api.OK {
			return api.Row{}, e
		}
		c, _ := p.s.Memory.Make(0)
		p.own = api.Owner{Thread: p.thread, Stamp: stamp, Priority: c}
		r.Kind, r.Cell, r.Seen, r.Wrote, r.Done = api.RowBegin, p.clock, stamp, stamp+1, true
	}
	held := int64(0)
	for _, v := range p.events {
		if v.Kind == api.RowBoost {
			held++
		}
	}
	a, e := txn.New(p.s, p.own, held)
	if e != api.OK {
		return api.Row{}, e
	}
	p.attempts = append(p.attempts, a)
	r.Attempt = a.Number()
	return r, api.OK
}
