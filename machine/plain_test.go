package machine_test

import (
	"iter"
	"slices"

	"braid/api"
	"braid/lang"
	"braid/machine"
	"braid/word"
)

// plain is a whole run as DOC.md tells it in M1 to M8, and the chapters of the jobs: it calls none of the layers that a
// run is made of. Each thread is straight code, which is halted behind each of its steps.
type plain struct {
	s            machine.Script
	step, thread int
	cells        []int64
	log          []api.Access
	objects      []int // their cells
	versions     []api.Value
	locators     []api.Locator
	attempts     []actor
	drawn        int
	rows         []api.Row
	answers      [][]api.Answer
	nodes        [][]int // each job's
	next         []func() (api.Row, bool)
	stops        []func()
}

// actor is an attempt, as others see it.
type actor struct {
	stamp                  int64
	status, flag, priority int
}

func newPlain(s machine.Script) *plain {
	w := &plain{s: s, answers: make([][]api.Answer, len(s.Threads)), nodes: make([][]int, len(s.Threads))}
	w.make(0)
	w.attempts = []actor{{stamp: -1, status: w.make(api.Committed), flag: w.make(0)}}
	for _, n := range s.Objects {
		w.object(api.Value{Num: n})
	}
	w.object(api.Value{Next: -1})
	for p, jobs := range s.Threads {
		w.answers[p] = make([]api.Answer, len(jobs))
		w.nodes[p] = make([]int, len(jobs))
		for n, j := range jobs {
			if j.Kind != api.JobProgram {
				w.nodes[p][n] = w.object(api.Value{Next: -1})
			}
		}
		next, stop := iter.Pull(w.jobs(p))
		w.next, w.stops = append(w.next, next), append(w.stops, stop)
	}
	return w
}

func (w *plain) make(first int64) int {
	w.cells = append(w.cells, first)
	return len(w.cells) - 1
}

func (w *plain) object(v api.Value) int {
	n := len(w.objects)
	w.versions = append(w.versions, v)
	w.locators = append(w.locators, api.Locator{Old: n, New: n})
	w.objects = append(w.objects, w.make(int64(n)))
	return n
}

// takes does the step of the next pick.
func (w *plain) takes() api.Row {
	w.step = len(w.rows)
	row := api.Row{Thread: -1, Job: -1, Attempt: -1, Object: -1, Entry: -1, Enemy: -1, Cell: -1}
	if pick := w.s.Picks[w.step]; pick >= 0 && pick < int64(len(w.next)) {
		w.thread = int(pick)
		if r, more := w.next[pick](); more {
			row = r
		}
	}
	row.Step = w.step
	w.rows = append(w.rows, row)
	return row
}

// ends lets go of the threads that are halted.
func (w *plain) ends() {
	for _, stop := range w.stops {
		stop()
	}
}

func (w *plain) committed() []api.Value {
	var all []api.Value
	for _, c := range w.objects {
		loc := w.locators[w.cells[c]]
		all = append(all, w.versions[current(loc, w.cells[w.attempts[loc.Owner].status])])
	}
	return all
}

func current(loc api.Locator, status int64) int {
	if status == api.Committed {
		return loc.New
	}
	return loc.Old
}

func (w *plain) access(kind, c int, wrote int64, done bool) api.Access {
	a := api.Access{Step: w.step, Thread: w.thread, Kind: kind, Cell: c, Seen: w.cells[c], Wrote: wrote, Done: done}
	w.cells[c] = wrote
	w.log = append(w.log, a)
	return a
}

func (w *plain) load(c int) api.Access { return w.access(api.AccLoad, c, w.cells[c], true) }

func (w *plain) add(c int, by int64) api.Access {
	return w.access(api.AccAdd, c, w.cells[c]+by, true)
}

func (w *plain) swap(c int, old, next int64) api.Access {
	if w.cells[c] != old {
		return w.access(api.AccSwap, c, w.cells[c], false)
	}
	return w.access(api.AccSwap, c, next, true)
}

// stopped leaves a thread that is not gone on with; ended leaves an attempt.
type (
	stopped struct{}
	ended   struct{ end int }
)

func (w *plain) jobs(p int) iter.Seq[api.Row] {
	return func(yield func(api.Row) bool) {
		defer func() {
			if left := recover(); left != nil && left != (stopped{}) {
				panic(left)
			}
		}()
		for n, j := range w.s.Threads[p] {
			t := &actors{plain: w, yield: yield, p: p, n: n, job: j}
			t.all()
		}
	}
}

// actors is a job with its attempts.
type actors struct {
	*plain
	yield func(api.Row) bool
	p, n  int
	job   machine.Job

	stamp    int64
	priority int
	rank     int
	tries    int

	// of the present attempt
	number int
	own    map[int]int // each object's locator
	table  []entry
	reads  int
	up     bool
	answer api.Answer
}

type entry struct{ object, version, ordinal int }

func (t *actors) row(kind, phase, object, entry, enemy int) api.Row {
	return api.Row{
		Thread: t.p, Job: t.n, Try: t.tries, Attempt: t.number, Kind: kind, Phase: phase,
		Object: object, Entry: entry, Enemy: enemy, Cell: -1,
	}
}

// tells ends a step.
func (t *actors) tells(r api.Row, took ...api.Access) {
	for _, a := range took {
		r.Cell, r.Seen, r.Wrote, r.Done = a.Cell, a.Seen, a.Wrote, a.Done
	}
	if !t.yield(r) {
		panic(stopped{})
	}
	if r.End != api.EndNone {
		panic(ended{r.End})
	}
}

// all is M8.
func (t *actors) all() {
	took := t.plain.add(0, 1)
	t.stamp, t.priority = took.Seen, t.make(0)
	t.fresh()
	t.tells(t.row(api.RowBegin, 0, -1, -1, -1), took)
	outcome := t.attempt()
	for outcome == api.EndStale || outcome == api.EndKilled {
		t.fresh()
		t.tells(t.row(api.RowAgain, 0, -1, -1, -1))
		outcome = t.attempt()
	}
	if outcome != api.EndCommit {
		t.answer = api.Answer{}
	}
	t.answer.Outcome, t.answer.Tries = outcome, t.tries
	t.answers[t.p][t.n] = t.answer
	t.tells(t.row(api.RowReturn, 0, -1, -1, -1))
}

func (t *actors) fresh() {
	t.tries++
	t.number = len(t.attempts)
	t.attempts = append(t.attempts, actor{t.stamp, t.make(api.Active), t.make(0), t.priority})
	t.own, t.table, t.reads, t.up, t.answer = map[int]int{}, nil, 0, false, api.Answer{}
}

func (t *actors) attempt() (end int) {
	defer func() {
		switch left := recover().(type) {
		case ended:
			end = left.end
		default:
			panic(left)
		}
	}()
	if t.job.Kind == api.JobProgram {
		t.program(t.job.Program)
	}
	t.call()
	return api.EndNone
}

func (t *actors) me() actor { return t.attempts[t.number] }

// look is RowPoint and RowStatus.
func (t *actors) look(phase, x, ordinal int) (loc, owner int, status int64) {
	took := t.load(t.objects[x])
	t.tells(t.row(api.RowPoint, phase, x, ordinal, -1), took)
	loc = int(took.Seen)
	owner = t.locators[loc].Owner
	took = t.load(t.attempts[owner].status)
	t.tells(t.row(api.RowStatus, phase, x, ordinal, owner), took)
	return loc, owner, took.Seen
}

// settled is a look behind which nobody is in the way: the locator and the current version.
func (t *actors) settled(phase, x, ordinal int) (int, int) {
	loc, owner, status := t.look(phase, x, ordinal)
	for status == api.Active {
		loc, owner, status = t.conflict(phase, x, ordinal, owner)
	}
	return loc, current(t.locators[loc], status)
}

// conflict is M5. It answers what the last look said.
func (t *actors) conflict(phase, x, ordinal, enemy int) (loc, owner int, status int64) {
	for tries, waited := 0, 0; ; tries++ {
		t.alive(t.row(api.RowMine, phase, x, ordinal, enemy))
		v := t.judges(t.row(api.RowLook, phase, x, ordinal, enemy), tries, waited)
		if v.Abort {
			t.tells(t.row(api.RowKill, phase, x, ordinal, enemy), t.swap(t.attempts[enemy].status, api.Active, api.Aborted))
			t.down(t.row(api.RowDown, phase, x, ordinal, enemy))
			return t.look(phase, x, ordinal)
		}
		if t.s.Manager == api.Greedy && !t.up {
			t.up = true
			t.tells(t.row(api.RowUp, phase, x, ordinal, enemy), t.swap(t.me().flag, 0, 1))
		}
		for left := range v.Wait {
			r := t.row(api.RowWait, phase, x, ordinal, enemy)
			r.Wait = v.Wait - 1 - left
			t.tells(r)
		}
		waited += v.Wait
		loc, owner, status = t.look(phase, x, ordinal)
		if status != api.Active || owner != enemy {
			t.down(t.row(api.RowDown, phase, x, ordinal, enemy))
			return loc, owner, status
		}
	}
}

// alive is a RowMine at which the attempt goes on.
func (t *actors) alive(r api.Row) {
	took := t.load(t.me().status)
	if took.Seen != api.Active {
		r.End = api.EndKilled
	}
	t.tells(r, took)
}

func (t *actors) down(r api.Row) {
	if t.up {
		t.up = false
		t.tells(r, t.swap(t.me().flag, 1, 0))
	}
}

// judges is RowLook.
func (t *actors) judges(r api.Row, tries, waited int) api.Verdict {
	var took []api.Access
	e := t.attempts[r.Enemy]
	switch t.s.Manager {
	case api.Karma, api.Polka:
		took = append(took, t.load(e.priority))
	case api.Greedy:
		took = append(took, t.load(e.flag))
	}
	draw := int64(0)
	if t.drawn < len(t.s.Draws) {
		draw = t.s.Draws[t.drawn]
	}
	t.drawn++
	seen := int64(0)
	if len(took) > 0 {
		seen = took[0].Seen
	}
	wait := t.wish(seen, e.stamp, tries, uint64(draw))
	v := api.Verdict{Abort: wait == 0, Wait: wait}
	if left := t.s.Patience - waited; wait > 0 && t.s.Manager != api.Oracle {
		v.Wait = max(0, min(wait, left))
		v.Abort, v.Timeout = left < 1, left < 1
	}
	r.Abort, r.Timeout, r.Wait = v.Abort, v.Timeout, v.Wait
	t.tells(r, took...)
	return v
}

// wish is how long a manager would wait if there were patience enough, 0: it aborts the enemy.
func (t *actors) wish(seen, stamp int64, tries int, draw uint64) int {
	low := func(bits int) int { return int(draw % (1 << bits)) }
	richer := int64(t.rank+tries) > seen // a rank is small, and a run has few tries: the sum comes to no end
	switch {
	case t.s.Manager == api.Polite && tries < 8:
		return 1 + low(tries)
	case t.s.Manager == api.Karma && !richer:
		return 4
	case t.s.Manager == api.Polka && !richer:
		return 1 + low(min(tries, 7))
	case t.s.Manager == api.Greedy && t.stamp >= stamp && seen != 1:
		return 4
	case t.s.Manager == api.Oracle && draw%2 == 1:
		return (low(4)+1)/2 + 8*int(draw>>63)
	}
	return 0
}

// stale is M6.
func (t *actors) stale(phase int) {
	r := t.row(api.RowQuit, phase, -1, -1, -1)
	r.End = api.EndStale
	t.tells(r, t.swap(t.me().status, api.Active, api.Aborted))
}

// checks is M3 but for its last steps.
func (t *actors) checks(phase int) {
	for _, e := range t.table {
		loc, _, status := t.look(phase, e.object, e.ordinal)
		if current(t.locators[loc], status) != e.version {
			t.stale(phase)
		}
	}
}

// opened is the last steps of M3: the very last one is r, which tells.
func (t *actors) opened(r api.Row) {
	took := t.load(t.me().status)
	bare := t.row(api.RowMine, r.Phase, r.Object, -1, -1)
	if took.Seen != api.Active {
		bare.End = api.EndKilled
		t.tells(bare, took)
	}
	if (t.s.Manager == api.Karma || t.s.Manager == api.Polka) && t.rank < api.MaxRank {
		t.tells(bare, took)
		t.rank++
		r.Kind = api.RowBoost
		took = t.plain.add(t.priority, 1)
	}
	t.tells(r, took)
}

func (t *actors) at(x int) int {
	return slices.IndexFunc(t.table, func(e entry) bool { return e.object == x })
}

// read is M1.
func (t *actors) read(x int) api.Value {
	r := t.row(api.RowLocal, api.PhaseRead, x, -1, -1)
	r.Told = true
	if loc, own := t.own[x]; own {
		r.Value = t.versions[t.locators[loc].New]
		t.tells(r)
		return r.Value
	}
	if k := t.at(x); k >= 0 {
		r.Entry, r.Value = t.table[k].ordinal, t.versions[t.table[k].version]
		t.tells(r)
		return r.Value
	}
	_, v := t.settled(api.PhaseRead, x, -1)
	t.checks(api.PhaseRead)
	r.Kind, r.Entry, r.Value = api.RowMine, t.reads, t.versions[v]
	t.opened(r)
	t.table = append(t.table, entry{x, v, t.reads})
	t.reads++
	return r.Value
}

// write is M2, and what is put with its last step, if anything.
func (t *actors) write(x int, puts ...api.Value) api.Value {
	r := t.row(api.RowLocal, api.PhaseWrite, x, -1, -1)
	r.Told = true
	for _, v := range puts {
		r.Puts, r.Put = true, v
	}
	loc, own := t.own[x]
	if own {
		r.Value = t.versions[t.locators[loc].New]
	} else {
		r.Kind = api.RowMine
		loc, r.Entry, r.Value = t.acquire(x)
		t.checks(api.PhaseWrite)
	}
	if r.Puts { // nobody sees it ahead of the commit
		t.versions[t.locators[loc].New] = r.Put
	}
	if own {
		t.tells(r)
	} else {
		t.opened(r)
	}
	return r.Value
}

func (t *actors) acquire(x int) (loc, ordinal int, v api.Value) {
	for {
		have, version := t.settled(api.PhaseWrite, x, -1)
		if k := t.at(x); k >= 0 && t.table[k].version != version {
			t.stale(api.PhaseWrite)
		}
		loc = len(t.locators)
		t.locators = append(t.locators, api.Locator{Owner: t.number, Old: version, New: len(t.versions)})
		t.versions = append(t.versions, t.versions[version])
		took := t.swap(t.objects[x], int64(have), int64(loc))
		if took.Done {
			t.own[x] = loc
			v, ordinal = t.versions[version], -1
			if k := t.at(x); k >= 0 {
				ordinal = t.table[k].ordinal
				t.table = slices.Delete(t.table, k, k+1)
			}
		}
		t.tells(t.row(api.RowAcquire, api.PhaseWrite, x, -1, -1), took)
		if took.Done {
			return loc, ordinal, v
		}
	}
}

func (t *actors) drop(x int) {
	r := t.row(api.RowRelease, 0, x, -1, -1)
	if k := t.at(x); k >= 0 {
		r.Entry = t.table[k].ordinal
		t.table = slices.Delete(t.table, k, k+1)
	}
	t.tells(r)
}

// finish is M4.
func (t *actors) finish() {
	for _, e := range t.table {
		if _, v := t.settled(api.PhaseFinal, e.object, e.ordinal); v != e.version {
			t.stale(api.PhaseFinal)
		}
	}
	r := t.row(api.RowCommit, api.PhaseFinal, -1, -1, -1)
	took := t.swap(t.me().status, api.Active, api.Committed)
	r.End = api.EndKilled
	if took.Done {
		r.End = api.EndCommit
	}
	t.tells(r, took)
}

// quit is M7.
func (t *actors) quit(why int) {
	r := t.row(api.RowQuit, api.PhaseQuit, -1, -1, -1)
	took := t.swap(t.me().status, api.Active, api.Aborted)
	r.End = api.EndKilled
	if took.Done {
		r.End = why
	}
	t.tells(r, took)
}

// program is chapter 12's.
func (t *actors) program(code []lang.Instr) {
	var regs [16]int64
	source := func(o lang.Operand) int64 {
		if o.Reg {
			return regs[o.Num]
		}
		return o.Num
	}
	object := func(o lang.Operand) int {
		x := source(o)
		if x < 0 || x >= int64(len(t.s.Objects)) {
			t.quit(api.EndBad)
		}
		return int(x)
	}
	for at := 0; at < len(code); {
		in := code[at]
		at++
		switch in.Code {
		case lang.Get:
			regs[in.Dst] = t.read(object(in.Obj)).Num
		case lang.Take:
			regs[in.Dst] = t.write(object(in.Obj)).Num
		case lang.Put:
			t.write(object(in.Obj), api.Value{Num: source(in.X)})
		case lang.Drop:
			t.drop(object(in.Obj))
		case lang.Quit:
			t.quit(api.EndUser)
		case lang.Done:
			t.answer.Result = source(in.X)
			t.finish()
		default:
			switch in.Code {
			case lang.Let:
				regs[in.Dst] = source(in.X)
			case lang.Calc:
				regs[in.Dst], _ = word.Apply(in.Op, source(in.X), source(in.Y))
			case lang.Goto:
				at = in.To
			case lang.If:
				if holds, _ := word.Holds(in.Rel, source(in.X), source(in.Y)); holds {
					at = in.To
				}
			}
			t.tells(t.row(api.RowLocal, 0, -1, -1, -1))
		}
	}
	t.finish()
}

// spot is an object of the list with its value, -1: the list's end.
type spot struct {
	object int
	api.Value
}

// goes is a walk.
func (t *actors) goes(key int64, hold bool) (prev, curr spot) {
	head := len(t.s.Objects)
	prev = spot{head, t.read(head)}
	for prev.Next >= 0 {
		curr = spot{prev.Next, t.read(prev.Next)}
		if curr.Num >= key {
			return prev, curr
		}
		if !hold {
			t.drop(prev.object)
		}
		prev = curr
	}
	return prev, spot{object: -1}
}

func (t *actors) links(key int64, prev, curr spot) {
	node := t.nodes[t.p][t.n]
	t.write(node, api.Value{Num: key, Next: curr.object})
	t.write(prev.object, api.Value{Num: prev.Num, Next: node, Dead: prev.Dead})
}

func (t *actors) unlinks(prev, curr spot) {
	t.write(curr.object, api.Value{Num: curr.Num, Next: curr.Next, Dead: true})
	t.write(prev.object, api.Value{Num: prev.Num, Next: curr.Next, Dead: prev.Dead})
}

// call is chapter 13's.
func (t *actors) call() {
	j, head := t.job, len(t.s.Objects)
	found := func(c spot, key int64) bool { return c.object >= 0 && c.Num == key }
	switch j.Kind {
	case api.JobSize:
		t.answer.Yes = true
		for v := t.read(head); v.Next >= 0; v = t.read(v.Next) {
			t.answer.Result++
		}
	case api.JobLeast:
		prev := spot{head, t.read(head)}
		if prev.Next >= 0 {
			curr := spot{prev.Next, t.read(prev.Next)}
			t.answer.Yes, t.answer.Result = true, curr.Num
			t.unlinks(prev, curr)
		}
	case api.JobMove:
		if _, curr := t.goes(j.Other, true); found(curr, j.Other) {
			break
		}
		prev, curr := t.goes(j.Key, true)
		if !found(curr, j.Key) {
			break
		}
		t.answer.Yes = true
		t.unlinks(prev, curr)
		prev, curr = t.goes(j.Other, true)
		t.links(j.Other, prev, curr)
	default:
		prev, curr := t.goes(j.Key, false)
		t.answer.Yes = found(curr, j.Key) != (j.Kind == api.JobInsert)
		switch {
		case j.Kind == api.JobInsert && t.answer.Yes:
			t.links(j.Key, prev, curr)
		case j.Kind == api.JobRemove && t.answer.Yes:
			t.unlinks(prev, curr)
		}
	}
	t.finish()
}
