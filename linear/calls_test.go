package linear_test

import (
	"slices"
	"testing"

	"braid/api"
	"braid/fixture"
	"braid/lang"
	"braid/machine"
)

// yes is a call's answer.
func yes(result int64) api.Answer {
	return api.Answer{Outcome: api.EndCommit, Yes: true, Result: result, Tries: 1}
}

// many is a script and rows by hand: a call that commits and returns, one that commits alone, one under way, one that gave
// itself up, one that is tried twice, one that nobody has begun; programs and stutters between.
func many() (machine.Script, machine.Result) {
	program := machine.Job{Program: []lang.Instr{{Code: lang.Quit}}}
	s := scripted([]int64{7},
		[]machine.Job{job(api.JobInsert, 4), program, job(api.JobMove, 4, 9)},
		[]machine.Job{program, job(api.JobSize), job(api.JobContains, -3)},
		nil,
		[]machine.Job{job(api.JobLeast), job(api.JobRemove, 8)},
		[]machine.Job{job(api.JobRemove, 6), job(api.JobInsert, 1)},
	)
	rows := laid(
		stutter(), begin(1), begin(3), begin(0), // 0 to 3
		quit(1, api.EndUser), back(1), final(3), final(0), // 4 to 7
		stutter(), final(0), commit(0), killed(3, api.RowMine), // 8 to 11
		again(3), begin(1), back(0), begin(0), // 12 to 15
		final(3), final(3), commit(3), quit(0, api.EndBad), // 16 to 19
		begin(4), back(0), begin(0), commit(0), // 20 to 23
		back(3), quit(4, api.EndUser), back(4), begin(3), // 24 to 27
		killed(3, api.RowCommit), stutter(), // 28 and 29
	)
	s, r := played(s, rows)
	r.Answers[0][0], r.Answers[3][0] = yes(0), yes(17)
	return s, r
}

func TestCallsByHand(t *testing.T) {
	s, r := many()
	want := []api.Call{
		least(true, 17, 2, 16, 24),
		insert(4, true, 3, 7, 14),
		size(0, 13, -1, -1),
		remove(6, false, 20, -1, -1),
		move(4, 9, false, 22, 23, -1),
		remove(8, false, 27, -1, -1),
	}
	want[2].Yes = false
	told(t, s, r, want...)
	for p := range r.Answers { // what a call answers is looked at where it has returned from a commit, and nowhere else
		for j := range r.Answers[p] {
			r.Answers[p][j] = api.Answer{Outcome: p, Yes: j == 0, Result: int64(10*p + j), Tries: 9}
		}
	}
	want[0].Yes, want[0].Result, want[1].Yes, want[1].Result = true, 30, true, 0
	told(t, s, r, want...)
	r.Answers[0][0], r.Answers[3][0] = api.Answer{Result: 5}, api.Answer{Yes: true}
	want[0].Yes, want[0].Result, want[1].Yes, want[1].Result = true, 0, false, 5
	told(t, s, r, want...)
}

// Each beginning of the rows: a call is told from its first row on, its Point from its commit on, its answer from its
// return on.
func TestCallsOfEachBeginning(t *testing.T) {
	s, r := many()
	for k := range len(r.Rows) + 1 {
		part := r
		part.Rows = r.Rows[:k]
		var want []api.Call
		for _, c := range []struct {
			call   api.Call
			commit int
		}{
			{least(true, 17, 2, 16, 24), 18}, {insert(4, true, 3, 7, 14), 10}, {size(0, 13, -1, -1), 99},
			{remove(6, false, 20, -1, -1), 99}, {move(4, 9, false, 22, 23, -1), 23}, {remove(8, false, 27, -1, -1), 99},
		} {
			if k <= c.commit {
				c.call.Point = -1
			}
			if k <= c.call.To || c.call.To == -1 {
				c.call.Yes, c.call.Result, c.call.To = false, 0, -1
			}
			if k > c.call.From {
				want = append(want, c.call)
			}
		}
		told(t, s, part, want...)
	}
}

// The Point is the first row of the last operation, of the attempt that commits; the commit's own, if none says so.
func TestThePoint(t *testing.T) {
	none := with(commit(0), func(r *api.Row) { r.Phase = api.PhaseNone })
	early := with(of(0, api.RowLocal), func(r *api.Row) { r.Phase = api.PhaseFinal })
	for _, c := range []struct {
		rows      []api.Row
		point, to int
	}{
		{[]api.Row{begin(0), commit(0), back(0)}, 1, 2},
		{[]api.Row{begin(0), none, back(0)}, 1, 2},
		{[]api.Row{begin(0), of(0, api.RowPoint), stutter(), none, stutter(), back(0)}, 3, 5},
		{[]api.Row{begin(0), final(0), none}, 1, -1},
		{[]api.Row{begin(0), of(0, api.RowPoint), final(0), final(0), stutter(), commit(0), back(0)}, 2, 6},
		{[]api.Row{begin(0), early, of(0, api.RowMine), commit(0)}, 1, -1},
		{[]api.Row{begin(0), final(0), killed(0, api.RowCommit), again(0), final(0), commit(0), back(0)}, 4, 6},
		{[]api.Row{begin(0), final(0), quit(0, api.EndStale), again(0), none, back(0)}, 4, 5},
		{[]api.Row{begin(0), final(0), quit(0, api.EndStale), again(0), final(0)}, -1, -1},
		{[]api.Row{begin(0), final(0), quit(0, api.EndBad), back(0)}, -1, -1},
		{[]api.Row{begin(0), final(0), quit(0, api.EndUser), back(0)}, -1, -1},
		{[]api.Row{with(begin(0), func(r *api.Row) { r.Phase = api.PhaseFinal }), of(0, api.RowPoint), none}, 2, -1},
	} {
		s, r := played(scripted(nil, []machine.Job{job(api.JobContains, 5)}), laid(c.rows...))
		r.Answers[0][0] = yes(6)
		want := contains(5, false, 0, c.point, c.to)
		if c.to >= 0 {
			want.Yes, want.Result = true, 6
		}
		told(t, s, r, want)
	}
}

// Calls of several threads and jobs are told in the order of their first steps.
func TestTheOrderOfCalls(t *testing.T) {
	jobs := []machine.Job{job(api.JobInsert, 1), job(api.JobInsert, 2)}
	s := scripted(nil, jobs, jobs, jobs)
	rows := laid(begin(2), begin(0), commit(2), back(2), begin(2), begin(1), commit(1), back(1), commit(0), back(0), begin(0))
	s, r := played(s, rows)
	told(t, s, r, insert(1, false, 0, 2, 3), insert(1, false, 1, 8, 9), insert(2, false, 4, -1, -1), insert(1, false, 5, 6, 7), insert(2, false, 10, -1, -1))
	s, r = played(s, nil)
	told(t, s, r)
	s, r = played(scripted(nil, nil), laid(stutter(), stutter()))
	told(t, s, r)
	lists(t, s, r, -1)
}

// Programs alone have no calls, whatever they do.
func TestProgramsAreNoCalls(t *testing.T) {
	d := fixture.NewDice()
	for n := range 100 {
		s := fixture.Thrown(&d, n)
		for p := range s.Threads {
			s.Threads[p] = slices.DeleteFunc(s.Threads[p], func(j machine.Job) bool { return j.Kind != api.JobProgram })
		}
		r := run(t, s)
		told(t, s, r)
		lists(t, s, r, -1)
	}
}

// DOC.md's example 7: the answers and the witnesses of a thread's seven calls.
func TestCallsOfTheWhole(t *testing.T) {
	s := scripted([]int64{1, 2}, []machine.Job{job(api.JobInsert, 4), job(api.JobInsert, -9), job(api.JobInsert, 4),
		job(api.JobContains, 4), job(api.JobLeast), job(api.JobSize), job(api.JobMove, 4, 5)})
	s.Picks = make([]int64, 400)
	r := run(t, s)
	var want []api.Call
	for i, c := range list(insert(4, true, 0, 0, 0), insert(-9, true, 0, 0, 0), insert(4, false, 0, 0, 0), contains(4, true, 0, 0, 0),
		least(true, -9, 0, 0, 0), size(1, 0, 0, 0), move(4, 5, true, 0, 0, 0)) {
		c.Point = -1
		for _, row := range r.Rows {
			switch {
			case row.Job != i:
			case row.Kind == api.RowBegin:
				c.From = row.Step
			case row.Kind == api.RowReturn:
				c.To = row.Step
			case row.Phase == api.PhaseFinal && c.Point == -1:
				c.Point = row.Step
			}
		}
		want = append(want, c)
	}
	told(t, s, r, want...)
	points(t, want, -1)
	keys(t, want, 5)
	lines(t, want, 0, 1, 2, 3, 4, 5, 6)
	lists(t, s, r, -1)
}
