package linear_test

import (
	"slices"
	"testing"

	"braid/api"
	"braid/machine"
)

// Each condition of which results fit, broken alone.
func TestWhatDoesNotFit(t *testing.T) {
	for what, c := range map[string]struct {
		spoil func(s *machine.Script, r *machine.Result)
		why   api.Errno
	}{
		"too many numbers":       {func(s *machine.Script, r *machine.Result) { s.Objects = make([]int64, 17) }, api.ErrObjects},
		"no manager":             {func(s *machine.Script, r *machine.Result) { s.Manager = 9 }, api.ErrManager},
		"no patience":            {func(s *machine.Script, r *machine.Result) { s.Patience = 0 }, api.ErrPatience},
		"a job that may not be":  {func(s *machine.Script, r *machine.Result) { s.Threads[0][0].Other = 1 }, api.ErrJob},
		"too many picks":         {func(s *machine.Script, r *machine.Result) { s.Picks = make([]int64, api.MaxPicks+1) }, api.ErrPicks},
		"a step":                 {func(s *machine.Script, r *machine.Result) { r.Rows[3].Step = 9 }, api.ErrRows},
		"a stutter of somebody":  {func(s *machine.Script, r *machine.Result) { r.Rows[0].Job = 0 }, api.ErrRows},
		"the last stutter":       {func(s *machine.Script, r *machine.Result) { r.Rows[29].Thread = 0 }, api.ErrRows},
		"a commit that is lost":  {func(s *machine.Script, r *machine.Result) { r.Rows[28].End = api.EndCommit }, api.ErrRows},
		"a thread too few":       {func(s *machine.Script, r *machine.Result) { s.Threads, r.Answers = s.Threads[:4], r.Answers[:4] }, api.ErrCall},
		"a job too few":          {cutJobs(0, 2), api.ErrCall},
		"two jobs too few":       {cutJobs(0, 1), api.ErrCall},
		"no jobs":                {cutJobs(0, 0), api.ErrCall},
		"the last row's job":     {cutJobs(3, 1), api.ErrCall},
		"a list of answers more": {func(s *machine.Script, r *machine.Result) { r.Answers = append(r.Answers, nil) }, api.ErrCall},
		"a list of answers less": {func(s *machine.Script, r *machine.Result) { r.Answers = r.Answers[:4] }, api.ErrCall},
		"no answers":             {func(s *machine.Script, r *machine.Result) { r.Answers = nil }, api.ErrCall},
		"an answer more": {func(s *machine.Script, r *machine.Result) {
			r.Answers[1] = append(r.Answers[1], api.Answer{})
		}, api.ErrCall},
		"an answer less":            {func(s *machine.Script, r *machine.Result) { r.Answers[4] = r.Answers[4][:1] }, api.ErrCall},
		"an answer of no job":       {func(s *machine.Script, r *machine.Result) { r.Answers[2] = make([]api.Answer, 1) }, api.ErrCall},
		"no answers of a thread":    {func(s *machine.Script, r *machine.Result) { r.Answers[0] = nil }, api.ErrCall},
		"answers in another thread": {func(s *machine.Script, r *machine.Result) { slices.Reverse(r.Answers) }, api.ErrCall},
	} {
		t.Run(what, func(t *testing.T) {
			s, r := many()
			c.spoil(&s, &r)
			unfit(t, s, r, c.why)
		})
	}
}

// cutJobs leaves a thread so many jobs and answers.
func cutJobs(thread, jobs int) func(s *machine.Script, r *machine.Result) {
	return func(s *machine.Script, r *machine.Result) {
		s.Threads[thread], r.Answers[thread] = s.Threads[thread][:jobs], r.Answers[thread][:jobs]
	}
}

// The script is looked at ahead of the rows, the rows ahead of what they say of the script.
func TestTheOrderOfErrors(t *testing.T) {
	s, r := many()
	r.Answers = nil
	unfit(t, s, r, api.ErrCall)
	r.Rows[29].Step = 3
	unfit(t, s, r, api.ErrRows)
	s.Manager = -1
	unfit(t, s, r, api.ErrManager)
	s.Threads = nil
	unfit(t, s, r, api.ErrThreads)
	s.Objects = make([]int64, 17)
	unfit(t, s, r, api.ErrObjects)

	s, r = many()
	cutJobs(0, 1)(&s, &r)
	r.Rows[2].Thread = api.MaxThreads
	unfit(t, s, r, api.ErrRows)
	unfit(t, machine.Script{}, machine.Result{}, api.ErrThreads)
}

// What is not asked for: how many rows there are to how many picks, whose picks they are, the finals, and jobs, threads and
// answers of which no row says anything.
func TestWhatFitsAllTheSame(t *testing.T) {
	want, r := many()
	calls, step := callsOf(t, want, r), listsOf(t, want, r)
	for what, spoil := range map[string]func(s *machine.Script, r *machine.Result){
		"no picks":     func(s *machine.Script, r *machine.Result) { s.Picks = nil },
		"other picks":  func(s *machine.Script, r *machine.Result) { s.Picks = make([]int64, 99) },
		"no finals":    func(s *machine.Script, r *machine.Result) { r.Finals = nil },
		"other finals": func(s *machine.Script, r *machine.Result) { r.Finals = make([]api.Value, 3) },
		"a thread more": func(s *machine.Script, r *machine.Result) {
			s.Threads, r.Answers = append(s.Threads, nil), append(r.Answers, nil)
		},
		"an empty list":    func(s *machine.Script, r *machine.Result) { r.Answers[2] = []api.Answer{} },
		"accesses":         func(s *machine.Script, r *machine.Result) { r.Rows[7].Cell, r.Rows[7].Seen = 99, -5 },
		"another outcome":  func(s *machine.Script, r *machine.Result) { r.Answers[0][0].Outcome, r.Answers[0][0].Tries = 77, -1 },
		"another manager":  func(s *machine.Script, r *machine.Result) { s.Manager, s.Patience = api.Oracle, 1 },
		"stutters at last": func(s *machine.Script, r *machine.Result) { r.Rows = laid(append(r.Rows, stutter(), stutter())...) },
	} {
		t.Run(what, func(t *testing.T) {
			s, r := many()
			spoil(&s, &r)
			told(t, s, r, calls...)
			lists(t, s, r, step)
		})
	}
}

// Rows of threads and jobs at their limits.
func TestTheGreatestScript(t *testing.T) {
	var rows []api.Row
	var want []api.Call
	for i := range api.MaxThreads * api.MaxJobs {
		p := i % api.MaxThreads
		rows = append(rows, begin(p), commit(p), back(p))
		want = append(want, contains(7, false, 3*i, 3*i+1, 3*i+2))
	}
	jobs := slices.Repeat([]machine.Job{job(api.JobContains, 7)}, api.MaxJobs)
	s, r := played(scripted(nil, slices.Repeat([][]machine.Job{jobs}, api.MaxThreads)...), laid(rows...))
	told(t, s, r, want...)
	lists(t, s, r, -1)
	s, r = played(s, laid(append(rows, begin(2))...))
	unfit(t, s, r, api.ErrCall)
	s.Threads[5] = s.Threads[5][:7]
	r.Answers[5], r.Rows = r.Answers[5][:7], r.Rows[:len(rows)]
	unfit(t, s, r, api.ErrCall)
	r.Rows = r.Rows[:len(rows)-3]
	told(t, s, r, want[:len(want)-1]...)
}
