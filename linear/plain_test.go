package linear_test

import (
	"slices"

	"braid/api"
	"braid/history"
	"braid/intset"
	"braid/machine"
)

// plainSet is all that was put in and taken out, of which nothing is worked out ahead of a question.
type plainSet []struct {
	number int64
	in     bool
}

func (p *plainSet) note(number int64, in bool) {
	*p = append(*p, struct {
		number int64
		in     bool
	}{number, in})
}

func (p plainSet) has(number int64) bool {
	for i := len(p) - 1; i >= 0; i-- {
		if p[i].number == number {
			return p[i].in
		}
	}
	return false
}

func (p plainSet) numbers() []int64 {
	var all []int64
	for _, n := range p {
		if p.has(n.number) && !slices.Contains(all, n.number) {
			all = append(all, n.number)
		}
	}
	slices.Sort(all)
	return all
}

// answer is what the set answers to a call, by the words of the chapter's section 'Types'.
func (p *plainSet) answer(c api.Call) (bool, int64) {
	in, other, all := p.has(c.Key), p.has(c.Other), p.numbers()
	switch {
	case c.Kind == api.JobInsert && !in:
		p.note(c.Key, true)
		return true, 0
	case c.Kind == api.JobRemove && in:
		p.note(c.Key, false)
		return true, 0
	case c.Kind == api.JobContains:
		return in, 0
	case c.Kind == api.JobLeast && len(all) > 0:
		p.note(all[0], false)
		return true, all[0]
	case c.Kind == api.JobSize:
		return true, int64(len(all))
	case c.Kind == api.JobMove && in && !other:
		p.note(c.Key, false)
		p.note(c.Other, true)
		return true, 0
	}
	return false, 0
}

// through goes through calls by their places, from the empty set on: the first that has answered otherwise than the set,
// -1: none; and the numbers in the set behind all of them.
func through(calls []api.Call, places []int) (int, []int64) {
	var p plainSet
	wrong := -1
	for _, place := range places {
		yes, result := p.answer(calls[place])
		if c := calls[place]; wrong == -1 && c.To != -1 && (c.Yes != yes || c.Result != result) {
			wrong = place
		}
	}
	return wrong, p.numbers()
}

// plainMay tells whether a list of calls may be.
func plainMay(calls []api.Call) bool {
	for i, c := range calls {
		kind := slices.Contains([]int{api.JobInsert, api.JobRemove, api.JobContains, api.JobLeast, api.JobSize, api.JobMove}, c.Kind)
		point := c.Point == -1 || c.Point > c.From
		to := c.To == -1 || c.Point != -1 && c.To > c.Point
		if !kind || c.From < 0 || !point || !to {
			return false
		}
		for k := range i {
			if calls[k].Point == c.Point && c.Point != -1 {
				return false
			}
		}
	}
	return true
}

// byPoints are the places of the calls that have a Point: again and again the one with the least Point that is left.
func byPoints(calls []api.Call) []int {
	var places []int
	for last := -1; ; {
		next := -1
		for place, c := range calls {
			if c.Point > last && (next == -1 || c.Point < calls[next].Point) {
				next = place
			}
		}
		if next == -1 {
			return places
		}
		places, last = append(places, next), calls[next].Point
	}
}

// isLine tells whether a list of places is a line, by its words.
func isLine(calls []api.Call, line []int) bool {
	for b, c := range calls {
		at := slices.Index(line, b)
		if at == -1 && c.To != -1 {
			return false
		}
		for a, ahead := range calls {
			if at != -1 && ahead.To != -1 && ahead.To < c.From && slices.Index(line, a) > at {
				return false
			}
		}
	}
	wrong, _ := through(calls, line)
	return wrong == -1
}

// plainSearch goes through all lists of different places, in the order of a dictionary, up to the first line.
func plainSearch(calls []api.Call) ([]int, bool) {
	line := []int{}
	for !isLine(calls, line) {
		if line = next(line, len(calls)); line == nil {
			return nil, false
		}
	}
	return line, true
}

// next is the list of different places below n that comes behind another one in a dictionary, nil: there is none.
func next(line []int, n int) []int {
	for place := range n {
		if !slices.Contains(line, place) {
			return append(slices.Clone(line), place)
		}
	}
	for len(line) > 0 {
		last := line[len(line)-1]
		line = slices.Clone(line[:len(line)-1])
		for place := last + 1; place < n; place++ {
			if !slices.Contains(line, place) {
				return append(line, place)
			}
		}
	}
	return nil
}

// plainFits is why a result does not fit.
func plainFits(s machine.Script, r machine.Result) api.Errno {
	if e := machine.Check(s); e != api.OK {
		return e
	}
	if _, e := history.Check(r.Rows); e != api.OK {
		return api.ErrRows
	}
	if len(r.Answers) != len(s.Threads) {
		return api.ErrCall
	}
	for p, jobs := range s.Threads {
		if len(r.Answers[p]) != len(jobs) {
			return api.ErrCall
		}
	}
	for _, row := range r.Rows {
		if row.Thread >= len(s.Threads) || row.Thread >= 0 && row.Job >= len(s.Threads[row.Thread]) {
			return api.ErrCall
		}
	}
	return api.OK
}

// rowOf is the row of a job that something is true of.
func rowOf(rows []api.Row, thread, job int, is func(api.Row) bool) (api.Row, bool) {
	i := slices.IndexFunc(rows, func(r api.Row) bool { return r.Thread == thread && r.Job == job && is(r) })
	if i == -1 {
		return api.Row{}, false
	}
	return rows[i], true
}

// plainCalls are the calls of a result that fits, each with the step of its commit, -1: none.
func plainCalls(s machine.Script, r machine.Result) ([]api.Call, []int) {
	txs, _ := history.Txs(r.Rows)
	commits := map[int]int{}
	var calls []api.Call
	for t, jobs := range s.Threads {
		for j, job := range jobs {
			begun, there := rowOf(r.Rows, t, j, func(r api.Row) bool { return r.Kind == api.RowBegin })
			if job.Kind == api.JobProgram || !there {
				continue
			}
			c := api.Call{Kind: job.Kind, Key: job.Key, Other: job.Other, From: begun.Step, Point: -1, To: -1}
			commit, committed := rowOf(r.Rows, t, j, func(r api.Row) bool { return r.End == api.EndCommit })
			back, returned := rowOf(r.Rows, t, j, func(r api.Row) bool { return r.Kind == api.RowReturn })
			commits[c.From] = -1
			if committed {
				commits[c.From], c.Point = commit.Step, txs[commit.Attempt-1].Final
			}
			if committed && c.Point == -1 {
				c.Point = commit.Step
			}
			if committed && returned {
				c.To, c.Yes, c.Result = back.Step, r.Answers[t][j].Yes, r.Answers[t][j].Result
			}
			calls = append(calls, c)
		}
	}
	slices.SortFunc(calls, func(a, b api.Call) int { return a.From - b.From })
	var steps []int
	for _, c := range calls {
		steps = append(steps, commits[c.From])
	}
	return calls, steps
}

// plainLists goes through all steps of a result that fits.
func plainLists(s machine.Script, r machine.Result) int {
	first, _ := machine.First(s)
	calls, commits := plainCalls(s, r)
	for k := range r.Rows {
		var some []api.Call
		for i, c := range calls {
			if commits[i] != -1 && commits[i] <= k {
				some = append(some, c)
			}
		}
		values, _ := history.At(first, r.Rows, k)
		got, is := intset.Keys(values, len(s.Objects))
		_, want := through(some, byPoints(some))
		if !is || !slices.Equal(got, want) {
			return k
		}
	}
	return -1
}
