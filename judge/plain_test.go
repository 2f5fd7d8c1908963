package judge_test

import (
	"slices"

	"braid/api"
	"braid/history"
	"braid/machine"
	"braid/model"
)

// plain are the rows of one attempt, of which nothing is kept: for each question all of them are looked through again.
type plain []api.Row

// plainly are the rows of the attempt at a place.
func plainly(rows []api.Row, place int) plain {
	var own plain
	for _, r := range rows {
		matters := r.Told || r.Puts || r.Kind == api.RowRelease
		if matters && r.Attempt == place+1 {
			own = append(own, r)
		}
	}
	return own
}

// own is the own value of an object ahead of a row.
func (p plain) own(object, ahead int) (api.Value, bool) {
	for i := ahead - 1; i >= 0; i-- {
		switch r := p[i]; {
		case r.Object != object:
		case r.Puts:
			return r.Put, true
		case r.Told && r.Phase == api.PhaseWrite:
			if v, is := p.own(object, i); is {
				return v, true
			}
			return r.Value, true
		}
	}
	return api.Value{}, false
}

func (p plain) isOwn(i int) bool {
	_, is := p.own(p[i].Object, i)
	return is
}

// takes tells whether a row takes its object.
func (p plain) takes(i int) bool {
	return p[i].Told && p[i].Phase == api.PhaseWrite && !p.isOwn(i)
}

// again tells whether the entry of a row has been told with ahead of it.
func (p plain) again(i int) bool {
	return p[i].Entry >= 0 && slices.ContainsFunc(p[:i], func(r api.Row) bool { return r.Told && r.Entry == p[i].Entry })
}

// reads tells whether a row makes a read that is held.
func (p plain) reads(i int) bool {
	return p[i].Told && p[i].Phase == api.PhaseRead && !p.isOwn(i) && !p.again(i)
}

// held tells whether the read that a row made is held behind another one.
func (p plain) held(i, behind int) bool {
	for k := i + 1; k <= behind; k++ {
		if p[k].Kind == api.RowRelease && p[k].Entry == p[i].Entry && p[i].Entry != -1 {
			return false
		}
		if p[k].Object == p[i].Object && p.takes(k) {
			return false
		}
	}
	return p.reads(i)
}

// known are the rows whose saws are held or taken behind a row.
func (p plain) known(behind int) []api.Row {
	var list []api.Row
	for i := range behind + 1 {
		if p.takes(i) || p.held(i, behind) {
			list = append(list, p[i])
		}
	}
	return list
}

func (p plain) fits(i int) bool {
	if v, is := p.own(p[i].Object, i); is {
		return v == p[i].Value
	}
	if p[i].Phase == api.PhaseWrite || !p.again(i) {
		return true
	}
	for k := range i {
		if p.held(k, i) && p[k].Entry == p[i].Entry && p[k].Object == p[i].Object && p[k].Value == p[i].Value {
			return true
		}
	}
	return false
}

// released tells whether a row lets an entry go.
func (p plain) released(entry int) bool {
	return entry != -1 && slices.ContainsFunc(p, func(r api.Row) bool { return r.Kind == api.RowRelease && r.Entry == entry })
}

// plainMoments goes through all steps, for each saw; the committed values behind each step are handed in.
func plainMoments(committed [][]api.Value, rows []api.Row, tx api.Tx) []int {
	var all []int
	p := plainly(rows, tx.Attempt-1)
	for i, r := range p {
		if !r.Told {
			continue
		}
		moment := -1
		known := p.known(i)
		for step := r.Step; step >= tx.Begin && p.fits(i); step-- {
			if !slices.ContainsFunc(known, func(k api.Row) bool {
				return k.Object >= len(committed[step]) || committed[step][k.Object] != k.Value
			}) {
				moment = step
			}
		}
		all = append(all, moment)
	}
	return all
}

// committed are the values behind each step.
func committed(first []api.Value, rows []api.Row) [][]api.Value {
	var all [][]api.Value
	for step := range rows {
		values, _ := history.At(first, rows, step)
		all = append(all, values)
	}
	return all
}

// plainFits is P16.5.
func plainFits(s machine.Script, r machine.Result) bool {
	first, _ := machine.First(s)
	txs, e := history.Txs(r.Rows)
	_, stands := plainOrder(txs)
	if e != api.OK || !stands || len(r.Rows) != len(s.Picks) || len(r.Answers) != len(s.Threads) || len(r.Finals) != len(first) {
		return false
	}
	for p, jobs := range s.Threads {
		if len(r.Answers[p]) != len(jobs) {
			return false
		}
	}
	for i, row := range r.Rows {
		if row.Kind != api.RowStutter && (int64(row.Thread) != s.Picks[i] || row.Thread >= len(s.Threads) || row.Job >= len(s.Threads[row.Thread])) {
			return false
		}
	}
	return true
}

// plainSerial is P16.6, of a result that fits, and the values behind the last attempt.
func plainSerial(s machine.Script, r machine.Result) (api.Finding, []api.Value) {
	now, _ := machine.First(s)
	txs, _ := history.Txs(r.Rows)
	places, _ := plainOrder(txs)
	for _, place := range places {
		p, tx := plainly(r.Rows, place), txs[place]
		if saw := p.brokenSaw(now); saw >= 0 {
			return breaks(place, saw), now
		}
		program := s.Threads[tx.Thread][tx.Job].Kind == api.JobProgram
		ahead := slices.Clone(now)
		for i, row := range p {
			if !row.Puts && !p.takes(i) {
				continue
			}
			if row.Object >= len(now) || program && row.Object >= len(s.Objects) {
				return breaks(place, -1), now
			}
			now[row.Object], _ = p.own(row.Object, len(p))
		}
		if program && !p.means(s, r, tx, ahead, now) {
			return breaks(place, -1), now
		}
	}
	if !slices.Equal(now, r.Finals) {
		return breaks(-1, -1), now
	}
	return good(), now
}

// brokenSaw is the place of the first saw that breaks, over these values.
func (p plain) brokenSaw(now []api.Value) int {
	saw := -1
	for i, r := range p {
		if !r.Told {
			continue
		}
		saw++
		stands := r.Object < len(now) && now[r.Object] == r.Value
		if !p.fits(i) || p.takes(i) && !stands || p.reads(i) && !p.released(r.Entry) && !stands {
			return saw
		}
	}
	return -1
}

func (p plain) means(s machine.Script, r machine.Result, tx api.Tx, ahead, behind []api.Value) bool {
	var given []api.Given
	for _, row := range p {
		if row.Told && row.Entry == len(given) {
			given = append(given, api.Given{Use: p.released(row.Entry), Value: row.Value.Num})
		}
	}
	numbers := func(values []api.Value) []int64 {
		list := make([]int64, len(s.Objects))
		for i := range list {
			list[i] = values[i].Num
		}
		return list
	}
	alone, e := model.Run(s.Threads[tx.Thread][tx.Job].Program, numbers(ahead), given, api.MaxFuel)
	if e != api.OK || alone.Outcome != api.EndCommit || !slices.Equal(alone.Objects, numbers(behind)) {
		return false
	}
	answered := slices.ContainsFunc(r.Rows, func(o api.Row) bool {
		return o.Kind == api.RowReturn && o.Thread == tx.Thread && o.Job == tx.Job
	})
	return !answered || r.Answers[tx.Thread][tx.Job] == answer(alone.Result, tx.Try)
}
