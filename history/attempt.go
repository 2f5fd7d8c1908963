package history

import (
	"cmp"
	"slices"

	"braid/api"
)

// writes are the last values that an attempt put, by their objects.
type writes map[int]api.Value

// lay writes them over values; what was put into an object that is not there is left out.
func (w writes) lay(values []api.Value) {
	for object, v := range w {
		if object < len(values) {
			values[object] = v
		}
	}
}

// tell gives them in the order of the objects, for a map has none.
func (w writes) tell() []api.Wrote {
	var list []api.Wrote
	for object, v := range w {
		list = append(list, api.Wrote{Object: object, Value: v})
	}
	slices.SortFunc(list, func(a, b api.Wrote) int { return cmp.Compare(a.Object, b.Object) })
	return list
}

// attempt is an attempt with what is known of it so far.
type attempt struct {
	tx       api.Tx
	wrote    writes
	released map[int]int // how often each entry was released
}

// attempts gathers the attempts of rows that may stand.
func attempts(rows []api.Row) []*attempt {
	var all []*attempt
	var present [api.MaxThreads]*attempt
	for _, r := range rows {
		switch {
		case r.Kind == api.RowBegin:
			present[r.Thread] = begin(r, r.Seen)
			all = append(all, present[r.Thread])
		case r.Kind == api.RowAgain:
			present[r.Thread] = begin(r, present[r.Thread].tx.Stamp)
			all = append(all, present[r.Thread])
		case ofAttempt(r.Kind):
			present[r.Thread].learn(r)
		}
	}
	return all
}

func begin(r api.Row, stamp int64) *attempt {
	tx := api.Tx{
		Thread: r.Thread, Job: r.Job, Try: r.Try, Attempt: r.Attempt,
		Stamp: stamp, Begin: r.Step, Final: none, End: none,
	}
	return &attempt{tx: tx, wrote: writes{}, released: map[int]int{}}
}

// learn goes on by a row of the attempt.
func (a *attempt) learn(r api.Row) {
	if r.Phase == api.PhaseFinal && a.tx.Final == none {
		a.tx.Final = r.Step
	}
	if r.End != api.EndNone {
		a.tx.End, a.tx.Outcome = r.Step, r.End
	}
	if r.Told {
		a.tx.Saws = append(a.tx.Saws, sawOf(r))
	}
	if r.Puts {
		a.wrote[r.Object] = r.Put
	}
	if r.Kind == api.RowRelease && r.Entry != none {
		a.released[r.Entry]++
	}
}

func sawOf(r api.Row) api.Saw {
	return api.Saw{
		Step: r.Step, Object: r.Object, Entry: r.Entry,
		Own: r.Kind == api.RowLocal && r.Entry == none, Write: r.Phase == api.PhaseWrite,
		Value: r.Value,
	}
}

// tell gives all that is known. Whether a read was released is known only now, for the release comes behind it.
func (a *attempt) tell() api.Tx {
	tx := a.tx
	for i, s := range tx.Saws {
		tx.Saws[i].Released = a.released[s.Entry] > 0
	}
	tx.Writes = a.wrote.tell()
	return tx
}
