package machine_test

import (
	"math"
	"slices"
	"testing"

	"braid/api"
	"braid/fixture"
	"braid/lang"
	"braid/machine"
)

// some is a script that may be, with all that a script has at its limit.
func some(t *testing.T) machine.Script {
	t.Helper()
	s := machine.Script{
		Objects: make([]int64, api.MaxMap), Manager: api.Oracle, Patience: api.MaxPatience,
		Draws: make([]int64, api.MaxDraws), Picks: make([]int64, api.MaxPicks),
	}
	full := slices.Repeat([]lang.Instr{{Code: lang.Quit}}, lang.MaxCode)
	for range api.MaxThreads {
		jobs := slices.Repeat([]machine.Job{{Program: full}}, api.MaxJobs-api.JobKinds)
		jobs = append(jobs, machine.Job{}, insert(math.MinInt64), remove(math.MaxInt64), contains(0), least(), size(), move(3, 3))
		s.Threads = append(s.Threads, jobs)
	}
	return s
}

// refused looks that a script has an error, out of all four calls, or none.
func refused(t *testing.T, s machine.Script, want api.Errno) {
	t.Helper()
	if e := machine.Check(s); e != want {
		t.Fatalf("Check = %d, want %d", e, want)
	}
	values, e := machine.First(s)
	if e != want || (values != nil) != (want == api.OK) {
		t.Fatalf("First = %v, %d, want %d", values, e, want)
	}
	m, e := machine.New(s)
	if e != want || (m != nil) != (want == api.OK) {
		t.Fatalf("New = %v, %d, want %d", m, e, want)
	}
	r, e := machine.Run(s)
	if e != want || len(r.Rows) > 0 != (want == api.OK && len(s.Picks) > 0) {
		t.Fatalf("Run = %+v, %d, want %d", r, e, want)
	}
	if want != api.OK && (r.Rows != nil || r.Answers != nil || r.Finals != nil) {
		t.Fatalf("Run = %+v, %d", r, e)
	}
	if want == api.OK && (len(r.Rows) != len(s.Picks) || len(r.Answers) != len(s.Threads) || len(r.Finals) != len(values)) {
		t.Fatalf("Run = %+v", r)
	}
}

// spoilt is what may be wrong with a script, in the order of the table.
type spoilt struct {
	name string
	want api.Errno
	do   func(*machine.Script)
}

func spoils() []spoilt {
	return []spoilt{
		{"objects", api.ErrObjects, func(s *machine.Script) { s.Objects = make([]int64, api.MaxMap+1) }},
		{"no thread", api.ErrThreads, func(s *machine.Script) { s.Threads = nil }},
		{"threads", api.ErrThreads, func(s *machine.Script) { s.Threads = append(s.Threads, nil) }},
		{"jobs", api.ErrJobs, func(s *machine.Script) { s.Threads[5] = append(s.Threads[5], machine.Job{}) }},
		{"job", api.ErrJob, func(s *machine.Script) { s.Threads[2][3].Kind = api.JobKinds }},
		{"manager", api.ErrManager, func(s *machine.Script) { s.Manager = api.Managers }},
		{"no patience", api.ErrPatience, func(s *machine.Script) { s.Patience = 0 }},
		{"patience", api.ErrPatience, func(s *machine.Script) { s.Patience = api.MaxPatience + 1 }},
		{"draws", api.ErrDraws, func(s *machine.Script) { s.Draws = append(s.Draws, 0) }},
		{"picks", api.ErrPicks, func(s *machine.Script) { s.Picks = append(s.Picks, 0) }},
	}
}

// Each limit, and one past it; of two errors the one that the table names first.
func TestErrors(t *testing.T) {
	refused(t, some(t), api.OK)
	for i, a := range spoils() {
		s := some(t)
		a.do(&s)
		refused(t, s, a.want)
		for _, b := range spoils()[i+1:] {
			if a.name == "no thread" && (b.name == "threads" || b.want == api.ErrJobs || b.want == api.ErrJob) {
				continue // one of the two takes the other one away
			}
			s := some(t)
			b.do(&s)
			a.do(&s)
			refused(t, s, a.want)
		}
	}
}

// Chapter 14's example 4, and the least that a script may have.
func TestErrorsOfTheChapter(t *testing.T) {
	quit := []lang.Instr{{Code: lang.Quit}}
	job := func(j machine.Job) machine.Script { return machine.Script{Threads: [][]machine.Job{{j}}, Patience: 1} }
	for i, c := range []struct {
		s    machine.Script
		want api.Errno
	}{
		{machine.Script{Objects: make([]int64, 17)}, api.ErrObjects},
		{machine.Script{Picks: make([]int64, 4097)}, api.ErrThreads},
		{machine.Script{}, api.ErrThreads},
		{job(machine.Job{Kind: api.JobInsert, Program: quit, Key: 5}), api.ErrJob},
		{job(machine.Job{Program: []lang.Instr{{Code: lang.Quit, To: 1}}}), api.ErrCode},
		{job(machine.Job{Program: []lang.Instr{{Code: lang.Quit, To: 1}}, Key: 1}), api.ErrJob},
		{job(machine.Job{Kind: api.JobSize, Key: 3}), api.ErrJob},
		{job(machine.Job{Kind: api.JobInsert, Key: 3, Other: 1}), api.ErrJob},
		{job(move(3, 3)), api.OK},
		{machine.Script{Threads: [][]machine.Job{nil}, Manager: 9}, api.ErrManager},
		{machine.Script{Threads: [][]machine.Job{nil}, Manager: -1}, api.ErrManager},
		{machine.Script{Threads: [][]machine.Job{nil}, Patience: -1}, api.ErrPatience},
		{machine.Script{Threads: [][]machine.Job{nil}, Patience: 1}, api.OK},
	} {
		t.Log(i)
		refused(t, c.s, c.want)
	}
}

// Every kind of a job with each of its fields used or not.
func TestErrJob(t *testing.T) {
	for _, n := range []int64{1, -1, math.MinInt64, math.MaxInt64} {
		for kind := -2; kind <= api.JobKinds+1; kind++ {
			for used := range 8 {
				j := machine.Job{Kind: kind, Program: []lang.Instr{}}
				code, key, other := used&1 != 0, used&2 != 0, used&4 != 0
				if code {
					j.Program = append(j.Program, lang.Instr{Code: lang.Quit})
				}
				if key {
					j.Key = n
				}
				if other {
					j.Other = n
				}
				want := api.ErrJob
				switch kind {
				case api.JobProgram:
					if !key && !other {
						want = api.OK
					}
				case api.JobLeast, api.JobSize:
					if !code && !key && !other {
						want = api.OK
					}
				case api.JobMove:
					if !code {
						want = api.OK
					}
				case api.JobInsert, api.JobRemove, api.JobContains:
					if !code && !other {
						want = api.OK
					}
				}
				refused(t, machine.Script{Threads: [][]machine.Job{nil, {{}, j, {}}}, Patience: 1}, want)
			}
		}
	}
	for _, kind := range []int{math.MinInt, math.MaxInt, 1 << 32} {
		refused(t, machine.Script{Threads: [][]machine.Job{{{Kind: kind}}}, Patience: 1}, api.ErrJob)
	}
}

// What lang.Check refuses, and where it stands among the other jobs.
func TestErrorsInTheirOrder(t *testing.T) {
	long := machine.Job{Program: slices.Repeat([]lang.Instr{{Code: lang.Quit}}, lang.MaxCode+1)}
	wrong := machine.Job{Program: []lang.Instr{{Code: lang.Quit}, {}}}
	odd := machine.Job{Kind: 7}
	many := make([]machine.Job, 9)
	oddAndLong, callAndWrong := long, wrong
	oddAndLong.Other = 1
	callAndWrong.Kind = api.JobSize
	for i, c := range []struct {
		threads [][]machine.Job
		want    api.Errno
	}{
		{[][]machine.Job{{long}}, api.ErrMany},
		{[][]machine.Job{{wrong}}, api.ErrCode},
		{[][]machine.Job{{odd}, many}, api.ErrJobs},          // jobs are counted ahead of any being looked at
		{[][]machine.Job{{long}, nil, many}, api.ErrJobs},    //
		{[][]machine.Job{{oddAndLong}}, api.ErrJob},          // within one job
		{[][]machine.Job{{callAndWrong}}, api.ErrJob},        //
		{[][]machine.Job{{{}, wrong, odd}}, api.ErrCode},     // from job to job
		{[][]machine.Job{{{}, odd, wrong}}, api.ErrJob},      //
		{[][]machine.Job{{{}, long}, {odd}}, api.ErrMany},    // from thread to thread
		{[][]machine.Job{{{}, {}, odd}, {long}}, api.ErrJob}, //
		{[][]machine.Job{nil, {{}, long}, {wrong}}, api.ErrMany},
		{[][]machine.Job{nil, {{}, wrong}, {long}}, api.ErrCode},
	} {
		t.Log(i)
		// what comes behind the jobs in the table doesn't come ahead of them
		refused(t, machine.Script{Threads: c.threads, Manager: 9, Draws: make([]int64, 1025), Picks: make([]int64, 4097)}, c.want)
		refused(t, machine.Script{Threads: c.threads, Patience: 1}, c.want)
		refused(t, machine.Script{Objects: make([]int64, 17), Threads: c.threads}, api.ErrObjects)
	}
}

// The numbers, the head, and one node for each call, wherever it stands.
func TestFirst(t *testing.T) {
	for _, c := range []struct {
		objects []int64
		threads [][]machine.Job
		nodes   int
	}{
		{nil, [][]machine.Job{nil}, 0},
		{nil, [][]machine.Job{{size()}}, 1},
		{[]int64{5, -7, math.MinInt64}, [][]machine.Job{nil, {program(t, one)}}, 0},
		{[]int64{math.MaxInt64}, [][]machine.Job{{insert(1), program(t, one), remove(2)}, nil, {contains(3), least()}, {{}, size(), move(1, 2)}}, 6},
		{make([]int64, 16), slices.Repeat([][]machine.Job{slices.Repeat([]machine.Job{least()}, 8)}, 6), 48},
	} {
		want := slices.Concat(fixture.Numbers(c.objects...), slices.Repeat([]api.Value{end()}, 1+c.nodes))
		s := machine.Script{Objects: c.objects, Threads: c.threads, Patience: 1}
		got, e := machine.First(s)
		if e != api.OK {
			t.Fatalf("First = %d", e)
		}
		values(t, got, want...)
		values(t, fresh(t, s).Values(), want...)
		values(t, run(t, s).Finals, want...)
		got[0].Num = 99
		again, _ := machine.First(s)
		values(t, again, want...)
	}
}

// The c-th call has the node M + 1 + c, counted over the whole script, whoever of them is picked, and the head M.
func TestNodes(t *testing.T) {
	threads := [][]machine.Job{{insert(10), program(t, one), insert(11)}, nil, {insert(12)}, {program(t, one), insert(13), insert(14)}}
	for _, order := range [][]int64{{0, 2, 3}, {3, 2, 0}, {2, 3, 0}} {
		s := machine.Script{Objects: []int64{1, 2}, Threads: threads, Patience: 1}
		for _, p := range order {
			s.Picks = append(s.Picks, times(150, p)...)
		}
		f := run(t, s).Finals
		values(t, f, api.Value{Num: 3}, api.Value{Num: 2}, api.Value{Next: 3},
			api.Value{Num: 10, Next: 4}, api.Value{Num: 11, Next: 5}, api.Value{Num: 12, Next: 6}, api.Value{Num: 13, Next: 7}, api.Value{Num: 14, Next: -1})
	}
	s := machine.Script{Objects: []int64{1, 2}, Threads: threads, Patience: 1, Picks: times(150, 3)}
	values(t, run(t, s).Finals, api.Value{Num: 2}, api.Value{Num: 2}, api.Value{Next: 6},
		end(), end(), end(), api.Value{Num: 13, Next: 7}, api.Value{Num: 14, Next: -1})
}

func TestNilAndZero(t *testing.T) {
	var none *machine.Machine
	for _, m := range []*machine.Machine{none, {}} {
		for range 2 {
			if r, more := m.Step(); more || r != (api.Row{}) {
				t.Errorf("Step = %+v, %v", r, more)
			}
			if len(m.Values())+len(m.Answers())+len(m.Log()) != 0 {
				t.Errorf("%v, %v, %v", m.Values(), m.Answers(), m.Log())
			}
		}
	}
}
