package machine_test

import (
	"cmp"
	"slices"
	"testing"

	"braid/api"
	"braid/machine"
)

// watched is a run with all that was to be seen of it.
type watched struct {
	*testing.T
	s      machine.Script
	first  []api.Value
	behind [][]api.Value // the values behind each step
	machine.Result
	attempts []*attempt // in the order in which they began
}

// attempt is one of a run, as its rows tell it.
type attempt struct {
	thread, job         int
	stamp               int64
	enters              int // the first step of its transaction
	begin, witness, end int // steps, -1: there is none
	outcome             int
	rows                []api.Row
}

func watch(t *testing.T, s machine.Script) *watched {
	t.Helper()
	w := &watched{T: t, s: s}
	m := fresh(t, s)
	w.first = m.Values()
	for r, more := m.Step(); more; r, more = m.Step() {
		w.Rows = append(w.Rows, r)
		w.behind = append(w.behind, m.Values())
	}
	w.Answers, w.Finals = m.Answers(), m.Values()
	w.tell()
	return w
}

// tell lays the rows out by attempts.
func (w *watched) tell() {
	now := make([]*attempt, len(w.s.Threads))
	for k, r := range w.Rows {
		switch r.Kind {
		case api.RowStutter, api.RowReturn:
			continue
		case api.RowBegin, api.RowAgain:
			a := &attempt{thread: r.Thread, job: r.Job, stamp: r.Seen, enters: k, begin: k, witness: -1, end: -1}
			if r.Kind == api.RowAgain {
				a.stamp, a.enters = now[r.Thread].stamp, now[r.Thread].enters
			}
			now[r.Thread] = a
			w.attempts = append(w.attempts, a)
		}
		a := now[r.Thread]
		a.rows = append(a.rows, r)
		if r.Phase == api.PhaseFinal && a.witness < 0 {
			a.witness = k
		}
		if r.End != api.EndNone {
			a.end, a.outcome = k, r.End
		}
	}
}

// committed are the attempts that have committed by a step, in the order of their witnesses.
func (w *watched) committed(by int) []*attempt {
	var all []*attempt
	for _, a := range w.attempts {
		if a.outcome == api.EndCommit && a.end <= by {
			all = append(all, a)
		}
	}
	slices.SortFunc(all, func(a, b *attempt) int { return cmp.Compare(a.witness, b.witness) })
	return all
}

func (w *watched) jobOf(a *attempt) machine.Job { return w.s.Threads[a.thread][a.job] }

// at are the values behind a step, -1: the first ones.
func (w *watched) at(step int) []api.Value {
	if step < 0 {
		return w.first
	}
	return w.behind[step]
}

// numbers are what programs see.
func (w *watched) numbers(all []api.Value) []int64 {
	var nums []int64
	for _, v := range all[:len(w.s.Objects)] {
		nums = append(nums, v.Num)
	}
	return nums
}

// answered tells whether the job of an attempt has answered.
func (w *watched) answered(a *attempt) bool {
	return w.Answers[a.thread][a.job] != (api.Answer{})
}

// released are the entries that an attempt lets go of ahead of a step.
func (a *attempt) released(ahead int) map[int]bool {
	gone := map[int]bool{}
	for _, r := range a.rows {
		if r.Kind == api.RowRelease && r.Entry >= 0 && r.Step < ahead {
			gone[r.Entry] = true
		}
	}
	return gone
}
