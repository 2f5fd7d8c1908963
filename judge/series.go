package judge

import (
	"slices"

	"braid/api"
	"braid/machine"
	"braid/model"
)

// rowsFit tells whether rows that may stand are those of a script's picks and jobs (P16.5).
func rowsFit(s machine.Script, rows []api.Row) bool {
	if len(rows) != len(s.Picks) {
		return false
	}
	for i, r := range rows {
		if r.Kind == api.RowStutter {
			continue
		}
		if int64(r.Thread) != s.Picks[i] || r.Thread >= len(s.Threads) || r.Job >= len(s.Threads[r.Thread]) {
			return false
		}
	}
	return true
}

// answersFit tells whether there is just one answer for each job.
func answersFit(s machine.Script, answers [][]api.Answer) bool {
	return slices.EqualFunc(s.Threads, answers, func(jobs []machine.Job, list []api.Answer) bool {
		return len(jobs) == len(list)
	})
}

// account is what an attempt knows behind its last row, and what became of its saws on the way.
type account struct {
	*knowledge
	saws     []saw
	answered bool // its job has returned
}

func accountOf(rows []api.Row) account {
	a := account{knowledge: newKnowledge()}
	for _, r := range rows {
		if s := a.learn(r); r.Told {
			a.saws = append(a.saws, s)
		}
		a.answered = r.Kind == api.RowReturn
	}
	return a
}

// series is a script's committed attempts one behind the other, as far as they have come.
type series struct {
	script  machine.Script
	answers [][]api.Answer
	values  []api.Value // behind the last one
}

// lay lays an attempt behind those that came ahead of it, and tells whether that goes; if not, the saw that breaks, -1:
// it is none (P16.6).
func (s *series) lay(tx api.Tx, a account) (int, bool) {
	for place, w := range a.saws {
		if s.breaks(w, a.given) {
			return place, false
		}
	}
	job := s.script.Threads[tx.Thread][tx.Job]
	program := job.Kind == api.JobProgram
	room := len(s.values)
	if program {
		room = len(s.script.Objects)
	}
	for object := range a.own {
		if object >= room {
			return none, false
		}
	}
	ahead := s.numbers()
	for object, v := range a.own {
		s.values[object] = v
	}
	return none, !program || s.means(job, tx, a, ahead)
}

// breaks tells whether a saw does not stand in the present values. A read that is let go may have been told anything.
func (s *series) breaks(w saw, given []api.Given) bool {
	if !w.fits || !w.fresh {
		return !w.fits
	}
	f := w.fact
	if f.entry != none && given[f.entry].Use {
		return false
	}
	return f.object >= len(s.values) || s.values[f.object] != f.value
}

// numbers are what the shared objects hold.
func (s *series) numbers() []int64 {
	var list []int64
	for _, v := range s.values[:len(s.script.Objects)] {
		list = append(list, v.Num)
	}
	return list
}

// means tells whether an attempt left, and its job answered, what its program means over the numbers ahead of it. The
// script may be, and there are no more entries than picks, so the model refuses nothing.
func (s *series) means(job machine.Job, tx api.Tx, a account, ahead []int64) bool {
	alone, _ := model.Run(job.Program, ahead, a.given, api.MaxFuel)
	if alone.Outcome != api.EndCommit || !slices.Equal(alone.Objects, s.numbers()) {
		return false
	}
	want := api.Answer{Outcome: api.EndCommit, Result: alone.Result, Tries: tx.Try}
	return !a.answered || s.answers[tx.Thread][tx.Job] == want
}
