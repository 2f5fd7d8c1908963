package txn_test

import (
	"iter"

	"braid/api"
	"braid/txn"
)

// reading is an entry as the plain attempt keeps it.
type reading struct{ object, version, ordinal int }

// plain is an attempt as the chapter tells it: each operation is one function from its first step to its last, which
// hands out a row, and rests, at every step.
type plain struct {
	s      txn.Scene
	own    api.Owner
	number int
	rank   int64
	state  int
	phase  int
	flag   bool
	added  int
	table  []reading
	mine   map[int]int // from an object to its locator
	told   func(step) bool
	resume func() (step, bool)
	stop   func()
}

// step is what one call of Step answers.
type step struct {
	row api.Row
	e   api.Errno
}

func newPlain(s txn.Scene, own api.Owner, rank int64) *plain {
	n, _ := s.World.Attempt(own)
	return &plain{s: s, own: own, number: n, rank: rank, state: api.StateOpen, mine: map[int]int{}}
}

func (p *plain) may() api.Errno {
	switch p.state {
	case api.StateOver:
		return api.ErrOver
	case api.StateBusy:
		return api.ErrBusy
	}
	return api.OK
}

func (p *plain) mayObject(x int) api.Errno {
	if e := p.may(); e != api.OK {
		return e
	}
	if x < 0 || x >= p.s.World.Objects() {
		return api.ErrObject
	}
	return api.OK
}

func (p *plain) begin(phase int, work func()) api.Errno {
	p.state, p.phase = api.StateBusy, phase
	p.resume, p.stop = iter.Pull(func(yield func(step) bool) {
		p.told = yield
		work()
	})
	return api.OK
}

func (p *plain) Read(x int) api.Errno {
	if e := p.mayObject(x); e != api.OK {
		return e
	}
	return p.begin(api.PhaseRead, func() { p.read(x) })
}

func (p *plain) Write(x int) api.Errno {
	if e := p.mayObject(x); e != api.OK {
		return e
	}
	return p.begin(api.PhaseWrite, func() { p.write(x) })
}

func (p *plain) Finish() api.Errno {
	if e := p.may(); e != api.OK {
		return e
	}
	return p.begin(api.PhaseFinal, p.finish)
}

func (p *plain) Quit(why int) api.Errno {
	if e := p.may(); e != api.OK {
		return e
	}
	if why != 2 && why != 3 {
		return api.ErrWhy
	}
	return p.begin(api.PhaseQuit, func() { p.quit(why, api.EndKilled) })
}

func (p *plain) Put(x int, v api.Value) api.Errno {
	if e := p.mayObject(x); e != api.OK {
		return e
	}
	loc, own := p.mine[x]
	if !own {
		return api.ErrNotOwn
	}
	return p.s.World.Put(loc, v)
}

func (p *plain) Release(x int) (int, api.Errno) {
	if e := p.mayObject(x); e != api.OK {
		return 0, e
	}
	if r, ok := p.leaves(x); ok {
		return r.ordinal, api.OK
	}
	return -1, api.OK
}

func (p *plain) Step() (api.Row, api.Errno) {
	switch p.state {
	case api.StateOver:
		return api.Row{}, api.ErrOver
	case api.StateOpen:
		return api.Row{}, api.ErrIdle
	}
	s, _ := p.resume()
	if p.state != api.StateBusy {
		p.stop()
	}
	return s.row, s.e
}

func (p *plain) entry(x int) (reading, bool) {
	for _, r := range p.table {
		if r.object == x {
			return r, true
		}
	}
	return reading{}, false
}

func (p *plain) leaves(x int) (reading, bool) {
	for i, r := range p.table {
		if r.object == x {
			p.table = append(append([]reading(nil), p.table[:i]...), p.table[i+1:]...)
			return r, true
		}
	}
	return reading{}, false
}

// row is one of a kind with what every row has.
func (p *plain) row(kind, object, entry, enemy int) api.Row {
	return api.Row{Thread: p.own.Thread, Attempt: p.number, Job: -1, Kind: kind, Phase: p.phase,
		Object: object, Entry: entry, Enemy: enemy, Cell: -1}
}

// access tries until the memory lets it, and fills the row; each refusal is a step's answer.
func (p *plain) access(row *api.Row, try func() api.Errno) {
	for {
		e := try()
		if e == api.OK {
			break
		}
		p.told(step{e: e})
	}
	took := p.s.Memory.Took()
	row.Cell, row.Seen, row.Wrote, row.Done = took.Cell, took.Seen, took.Wrote, took.Done
}

func (p *plain) hand(row api.Row) { p.told(step{row: row}) }

func (p *plain) ends(row api.Row, end int) {
	row.End = end
	p.state = api.StateOver
	p.hand(row)
}

func (p *plain) tells(row api.Row, version, ordinal int) {
	row.Entry, row.Told = ordinal, true
	row.Value, _ = p.s.World.Version(version)
	p.state = api.StateOpen
	p.hand(row)
}

func (p *plain) local(x, version, ordinal int) {
	p.tells(p.row(api.RowLocal, x, -1, -1), version, ordinal)
}

// isOwn tells whether x is its own, and if so what it holds, which ends the operation.
func (p *plain) isOwn(x int) bool {
	loc, own := p.mine[x]
	if own {
		l, _ := p.s.World.Locator(loc)
		p.local(x, l.New, -1)
	}
	return own
}

// looked is what a look said.
type looked struct{ loc, owner, status, current int }

func (p *plain) look(x, ordinal int) looked {
	var l looked
	r := p.row(api.RowPoint, x, ordinal, -1)
	p.access(&r, func() (e api.Errno) { l.loc, e = p.s.World.Load(x); return })
	p.hand(r)
	full, _ := p.s.World.Locator(l.loc)
	l.owner = full.Owner
	r = p.row(api.RowStatus, x, ordinal, l.owner)
	p.access(&r, func() (e api.Errno) { l.status, e = p.s.World.Status(l.owner); return })
	p.hand(r)
	l.current = full.Old
	if l.status == api.Committed {
		l.current = full.New
	}
	return l
}

// settled looks at x until nobody is in the way; false: the attempt is over.
func (p *plain) settled(x, ordinal int) (looked, bool) {
	l := p.look(x, ordinal)
	for l.status == api.Active {
		var on bool
		if l, on = p.conflict(x, ordinal, l.owner); !on {
			return l, false
		}
	}
	return l, true
}

// conflict answers the look that one goes on by.
func (p *plain) conflict(x, ordinal, enemy int) (looked, bool) {
	tries, waited := 0, 0
	row := func(kind int) api.Row { return p.row(kind, x, ordinal, enemy) }
	down := func() {
		if p.flag {
			r := row(api.RowDown)
			p.access(&r, func() api.Errno { _, e := p.s.World.Mark(p.number, false); return e })
			p.flag = false
			p.hand(r)
		}
	}
	for {
		r := row(api.RowMine)
		status := p.status(&r)
		if status != api.Active {
			p.ends(r, api.EndKilled)
			return looked{}, false
		}
		p.hand(r)
		r = row(api.RowLook)
		v := p.verdict(&r, enemy, tries, waited)
		p.hand(r)
		tries++
		if v.Abort {
			r = row(api.RowKill)
			p.access(&r, func() api.Errno { _, e := p.s.World.Kill(enemy); return e })
			p.hand(r)
			down()
			return p.look(x, ordinal), true
		}
		if p.s.Manager.Flags() && !p.flag {
			r = row(api.RowUp)
			p.access(&r, func() api.Errno { _, e := p.s.World.Mark(p.number, true); return e })
			p.flag = true
			p.hand(r)
		}
		for k := v.Wait - 1; k >= 0; k-- {
			r = row(api.RowWait)
			r.Wait = k
			waited++
			p.hand(r)
		}
		l := p.look(x, ordinal)
		if l.status != api.Active || l.owner != enemy {
			down()
			return l, true
		}
	}
}

func (p *plain) status(r *api.Row) int {
	var status int
	p.access(r, func() (e api.Errno) { status, e = p.s.World.Status(p.number); return })
	return status
}

func (p *plain) verdict(r *api.Row, enemy, tries, waited int) api.Verdict {
	o, _ := p.s.World.Owner(enemy)
	c := api.Conflict{Mine: p.rank, Born: p.own.Stamp, Enemy: o.Stamp, Tries: tries, Waited: waited}
	switch p.s.Manager.Kind() {
	case api.Karma, api.Polka:
		if o.Priority >= 0 && o.Priority < p.s.Memory.Size() {
			p.access(r, func() (e api.Errno) { c.Theirs, e = p.s.Memory.Load(o.Priority); return })
		}
	case api.Greedy:
		p.access(r, func() (e api.Errno) { c.Flag, e = p.s.World.Flag(enemy); return })
	}
	c.Draw = p.s.Draws.Next()
	v := p.s.Manager.Judge(c)
	r.Abort, r.Timeout, r.Wait = v.Abort, v.Timeout, v.Wait
	return v
}

// quit ends the attempt, as lost says where an enemy came first.
func (p *plain) quit(won, lost int) {
	r := p.row(api.RowQuit, -1, -1, -1)
	p.access(&r, func() api.Errno { _, e := p.s.World.Kill(p.number); return e })
	if r.Done {
		p.ends(r, won)
		return
	}
	p.ends(r, lost)
}

func (p *plain) stale() { p.quit(api.EndStale, api.EndStale) }

// valid looks at all entries; false: the attempt is over.
func (p *plain) valid() bool {
	for _, r := range p.table {
		if p.look(r.object, r.ordinal).current != r.version {
			p.stale()
			return false
		}
	}
	return true
}

// last is RowMine and, where it is due, RowBoost; false: the attempt is over.
func (p *plain) last(x int) (api.Row, bool) {
	r := p.row(api.RowMine, x, -1, -1)
	if p.status(&r) != api.Active {
		p.ends(r, api.EndKilled)
		return r, false
	}
	if p.s.Manager.Keeps() && p.rank < 255 {
		p.hand(r)
		r = p.row(api.RowBoost, x, -1, -1)
		p.access(&r, func() api.Errno { _, e := p.s.Memory.Add(p.own.Priority, 1); return e })
		p.rank++
	}
	return r, true
}

func (p *plain) read(x int) {
	if p.isOwn(x) {
		return
	}
	if r, ok := p.entry(x); ok {
		p.local(x, r.version, r.ordinal)
		return
	}
	l, on := p.settled(x, -1)
	if !on || !p.valid() {
		return
	}
	r, on := p.last(x)
	if !on {
		return
	}
	p.table = append(p.table, reading{x, l.current, p.added})
	p.added++
	p.tells(r, l.current, p.added-1)
}

func (p *plain) write(x int) {
	if p.isOwn(x) {
		return
	}
	r, base, on := p.acquire(x)
	if !on {
		return
	}
	ordinal := -1
	if gone, ok := p.leaves(x); ok {
		ordinal = gone.ordinal
	}
	p.hand(r)
	if !p.valid() {
		return
	}
	r, on = p.last(x)
	if on {
		p.tells(r, base, ordinal)
	}
}

// acquire tries until the swap is done, and answers its row, which is still to be handed out, and the version below;
// false: the attempt is over.
func (p *plain) acquire(x int) (api.Row, int, bool) {
	for {
		l, on := p.settled(x, -1)
		if !on {
			return api.Row{}, 0, false
		}
		if r, ok := p.entry(x); ok && r.version != l.current {
			p.stale()
			return api.Row{}, 0, false
		}
		made, _ := p.s.World.Make(p.number, l.current)
		r := p.row(api.RowAcquire, x, -1, -1)
		p.access(&r, func() api.Errno { _, e := p.s.World.Acquire(x, l.loc, made); return e })
		if r.Done {
			p.mine[x] = made
			return r, l.current, true
		}
		p.hand(r)
	}
}

func (p *plain) finish() {
	for _, r := range p.table {
		l, on := p.settled(r.object, r.ordinal)
		if !on {
			return
		}
		if l.current != r.version {
			p.stale()
			return
		}
	}
	r := p.row(api.RowCommit, -1, -1, -1)
	p.access(&r, func() api.Errno { _, e := p.s.World.Commit(p.number); return e })
	if r.Done {
		p.ends(r, api.EndCommit)
		return
	}
	p.ends(r, api.EndKilled)
}
