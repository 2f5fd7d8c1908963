package history_test

import (
	"slices"

	"braid/api"
)

// plain is rows as the chapter speaks of them: nothing is kept, for each answer all rows are gone through again.
type plain []api.Row

// last is the last row of a thread ahead of a place.
func (p plain) last(thread, ahead int) (api.Row, bool) {
	for i := ahead - 1; i >= 0; i-- {
		if p[i].Kind != api.RowStutter && p[i].Thread == thread {
			return p[i], true
		}
	}
	return api.Row{}, false
}

// state is a thread's, ahead of a place, by its last row.
func (p plain) state(thread, ahead int) string {
	last, there := p.last(thread, ahead)
	if !there || last.Kind == api.RowReturn {
		return "idle"
	}
	switch last.End {
	case api.EndStale, api.EndKilled:
		return "failed"
	case api.EndCommit, api.EndUser, api.EndBad:
		return "done"
	}
	return "live"
}

// count is how many ordinals a thread's attempt was told ahead of a place.
func (p plain) count(thread, ahead int) int {
	n := 0
	for i := range ahead {
		switch r := &p[i]; {
		case r.Thread != thread:
		case r.Kind == api.RowBegin || r.Kind == api.RowAgain:
			n = 0
		case r.Told && r.Entry == n:
			n++
		}
	}
	return n
}

// kinds counts the rows of these kinds ahead of a place.
func (p plain) kinds(ahead int, kinds ...int) int {
	n := 0
	for i := range ahead {
		if slices.Contains(kinds, p[i].Kind) {
			n++
		}
	}
	return n
}

// attempts tells whether rows of that kind are an attempt's.
func attempts(kind int) bool {
	return kind != api.RowStutter && kind != api.RowBegin && kind != api.RowAgain && kind != api.RowReturn
}

// broken are 15.1's conditions that the row at a place breaks; those ahead of it may stand.
func (p plain) broken(i int) []int {
	r := p[i]
	holds := []bool{
		r.Step == i && r.Kind >= 0 && r.Kind < api.RowKinds,
		p.named(i),
		r.Kind != api.RowBegin || p.begins(i),
		r.Kind != api.RowAgain || p.goesOn(i, "failed", 1) && r.Attempt == 1+p.kinds(i, api.RowBegin, api.RowAgain),
		r.Kind != api.RowReturn || p.goesOn(i, "done", 0) && p.stays(i),
		!attempts(r.Kind) || p.goesOn(i, "live", 0) && p.stays(i),
		p.endFits(i),
		p.toldFits(i),
		r.Kind != api.RowRelease || !r.Told && r.Entry >= -1 && r.Entry < p.count(r.Thread, i),
	}
	var list []int
	for c, h := range holds {
		if !h {
			list = append(list, c+1)
		}
	}
	return list
}

func (p plain) named(i int) bool {
	r := p[i]
	if r.Kind == api.RowStutter {
		return r.Thread == -1 && r.Job == -1 && r.Try == 0 && r.Attempt == -1
	}
	return r.Thread >= 0 && r.Thread <= 5
}

func (p plain) begins(i int) bool {
	r, job := p[i], 0
	if last, there := p.last(r.Thread, i); there {
		job = last.Job + 1
	}
	return p.state(r.Thread, i) == "idle" && r.Job == job && r.Try == 1 &&
		r.Attempt == 1+p.kinds(i, api.RowBegin, api.RowAgain) && r.Seen == int64(p.kinds(i, api.RowBegin))
}

// goesOn tells whether a row goes on with its thread's job in that state, so many tries later.
func (p plain) goesOn(i int, state string, tries int) bool {
	r := p[i]
	last, _ := p.last(r.Thread, i)
	return p.state(r.Thread, i) == state && last.Job == r.Job && last.Try+tries == r.Try
}

// stays tells whether a row is of the same attempt as the one ahead of it on its thread.
func (p plain) stays(i int) bool {
	last, _ := p.last(p[i].Thread, i)
	return last.Attempt == p[i].Attempt
}

func (p plain) endFits(i int) bool {
	r := p[i]
	if r.End < 0 || r.End > 5 || r.End != 0 && !attempts(r.Kind) {
		return false
	}
	if (r.End == api.EndCommit) != (r.Kind == api.RowCommit && r.Done) {
		return false
	}
	return r.End != api.EndUser && r.End != api.EndBad || r.Kind == api.RowQuit
}

func (p plain) toldFits(i int) bool {
	r := p[i]
	if !r.Told && !r.Puts {
		return true
	}
	if !attempts(r.Kind) || r.Object < 0 {
		return false
	}
	if !r.Told {
		return true
	}
	n := p.count(r.Thread, i)
	return r.Phase == api.PhaseRead && r.Entry >= -1 && r.Entry <= n || r.Phase == api.PhaseWrite && r.Entry >= -1 && r.Entry < n
}

func (p plain) check() int {
	for i := range p {
		if len(p.broken(i)) > 0 {
			return i
		}
	}
	return -1
}

// attempt are the rows of the attempt that begins at a place, behind that row.
func (p plain) attempt(begins int) []api.Row {
	var own []api.Row
	for _, r := range p[begins+1:] {
		switch {
		case r.Thread != p[begins].Thread:
		case attempts(r.Kind):
			own = append(own, r)
		default:
			return own
		}
	}
	return own
}

func (p plain) txs() []api.Tx {
	var all []api.Tx
	for i, r := range p {
		if r.Kind == api.RowBegin || r.Kind == api.RowAgain {
			all = append(all, p.tx(i))
		}
	}
	return all
}

func (p plain) tx(i int) api.Tx {
	r, own := p[i], p.attempt(i)
	x := api.Tx{Thread: r.Thread, Job: r.Job, Try: r.Try, Attempt: r.Attempt, Begin: r.Step, Final: -1, End: -1}
	for _, b := range p[:i+1] {
		if b.Kind == api.RowBegin && b.Thread == r.Thread {
			x.Stamp = b.Seen
		}
	}
	if k := slices.IndexFunc(own, func(r api.Row) bool { return r.Phase == api.PhaseFinal }); k >= 0 {
		x.Final = own[k].Step
	}
	if k := slices.IndexFunc(own, func(r api.Row) bool { return r.End != api.EndNone }); k >= 0 {
		x.End, x.Outcome = own[k].Step, own[k].End
	}
	for _, r := range own {
		if r.Told {
			gone := slices.ContainsFunc(own, func(l api.Row) bool { return l.Kind == api.RowRelease && l.Entry == r.Entry && r.Entry != -1 })
			x.Saws = append(x.Saws, api.Saw{Step: r.Step, Object: r.Object, Entry: r.Entry,
				Own: r.Kind == api.RowLocal && r.Entry == -1, Write: r.Phase == api.PhaseWrite, Released: gone, Value: r.Value})
		}
	}
	x.Writes = wrote(own)
	return x
}

// wrote are the last puts of some rows, in the order of the objects.
func wrote(own []api.Row) []api.Wrote {
	var objects []int
	for _, r := range own {
		if r.Puts {
			objects = append(objects, r.Object)
		}
	}
	slices.Sort(objects)
	var list []api.Wrote
	for _, x := range slices.Compact(objects) {
		for _, r := range slices.Backward(own) {
			if r.Puts && r.Object == x {
				list = append(list, api.Wrote{Object: x, Value: r.Put})
				break
			}
		}
	}
	return list
}

// at goes back from the step, object by object, to the last commit of one who put into it.
func (p plain) at(first []api.Value, step int) []api.Value {
	var values []api.Value
	for x, v := range first {
		if now, is := p.put(x, step); is {
			v = now
		}
		values = append(values, v)
	}
	return values
}

func (p plain) put(object, step int) (api.Value, bool) {
	for i := step; i >= 0; i-- {
		if p[i].End != api.EndCommit {
			continue
		}
		for k := i; p[k].Thread != p[i].Thread || attempts(p[k].Kind); k-- {
			if p[k].Thread == p[i].Thread && p[k].Puts && p[k].Object == object {
				return p[k].Put, true
			}
		}
	}
	return api.Value{}, false
}

func (p plain) oldest(step int) int64 {
	for i, r := range p[:step+1] { // stamps rise with the steps
		if r.Kind == api.RowBegin && !slices.ContainsFunc(p[i:step+1], func(o api.Row) bool {
			return o.Thread == r.Thread && o.Job == r.Job && decided(o.End)
		}) {
			return r.Seen
		}
	}
	return -1
}

func decided(end int) bool { return end >= api.EndCommit && end <= api.EndBad }

func (p plain) outcomes() []int {
	var steps []int
	for i, r := range p {
		if decided(r.End) {
			steps = append(steps, i)
		}
	}
	return steps
}
