package linear

import (
	"slices"

	"braid/api"
	"braid/history"
	"braid/machine"
)

// fits tells why a result does not fit a script, OK: it does.
func fits(s machine.Script, r machine.Result) api.Errno {
	if e := machine.Check(s); e != api.OK {
		return e
	}
	if _, e := history.Check(r.Rows); e != api.OK {
		return e
	}
	answers := slices.EqualFunc(s.Threads, r.Answers, func(jobs []machine.Job, list []api.Answer) bool {
		return len(jobs) == len(list)
	})
	if !answers || slices.ContainsFunc(r.Rows, func(row api.Row) bool { return !isJobs(s, row) }) {
		return api.ErrCall
	}
	return api.OK
}

// isJobs tells whether a row that may stand is a stutter, or of a job that the script has.
func isJobs(s machine.Script, row api.Row) bool {
	return row.Kind == api.RowStutter || row.Thread < len(s.Threads) && row.Job < len(s.Threads[row.Thread])
}

// record is a call of a run, with the step at which it committed, -1: it has not.
type record struct {
	api.Call
	commit int
}

// begun are the calls of the set that have begun in a result that fits, in the order of their first steps.
func begun(s machine.Script, r machine.Result) []*record {
	txs, _ := history.Txs(r.Rows)
	var all []*record
	var present [api.MaxThreads]*record // of each thread the last one
	for _, row := range r.Rows {
		if row.Kind == api.RowStutter || s.Threads[row.Thread][row.Job].Kind == api.JobProgram {
			continue
		}
		switch {
		case row.Kind == api.RowBegin:
			present[row.Thread] = begin(s.Threads[row.Thread][row.Job], row.Step)
			all = append(all, present[row.Thread])
		case row.End == api.EndCommit:
			present[row.Thread].commits(row.Step, txs[row.Attempt-1].Final)
		case row.Kind == api.RowReturn:
			present[row.Thread].returns(row.Step, r.Answers[row.Thread][row.Job])
		}
	}
	return all
}

func begin(job machine.Job, step int) *record {
	call := api.Call{Kind: job.Kind, Key: job.Key, Other: job.Other, From: step, Point: none, To: none}
	return &record{call, none}
}

func (c *record) commits(step, final int) {
	c.commit, c.Point = step, final
	if final == none { // rows by hand: nothing ahead of the commit was its last operation's
		c.Point = step
	}
}

// returns keeps what a call answered, if it has committed: another outcome is no answer of the set.
func (c *record) returns(step int, a api.Answer) {
	if c.commit != none {
		c.To, c.Yes, c.Result = step, a.Yes, a.Result
	}
}

// committedBy are the calls that have committed at or ahead of a step.
func committedBy(all []*record, step int) []api.Call {
	var calls []api.Call
	for _, c := range all {
		if c.commit != none && c.commit <= step {
			calls = append(calls, c.Call)
		}
	}
	return calls
}
