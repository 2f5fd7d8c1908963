package judge_test

import (
	"slices"
	"strings"
	"testing"

	"braid/api"
	"braid/fixture"
	"braid/history"
	"braid/machine"
)

// Chapter 16's examples 2 and 3.
func TestSerialOfTheChapter(t *testing.T) {
	s, r, first := example(t)
	serial(t, s, r, good())
	other := copied(r)
	other.Rows[3].Value.Num = 4
	serial(t, s, other, breaks(0, 0))
	other = copied(r)
	other.Rows[8].Put = api.Value{Num: 7}
	opaque(t, first, other.Rows, good())
	serial(t, s, other, breaks(0, -1))
	other = copied(r)
	other.Finals = []api.Value{{Num: 7}, {Next: -1}}
	serial(t, s, other, breaks(-1, -1))
	other = copied(r)
	other.Answers[0][0].Result = 7
	serial(t, s, other, breaks(0, -1))
	serial(t, s, r, good())
}

// A script without picks; one whose picks name nobody.
func TestNothingHappens(t *testing.T) {
	s, r := played(scripted([]int64{5}, []machine.Job{program(t, one)}), nil)
	serial(t, s, r, good())
	r.Finals[0].Num = 6
	serial(t, s, r, breaks(-1, -1))
	s, r = played(scripted(nil, nil), list(stutter(), stutter()))
	serial(t, s, r, good())
	s.Picks = []int64{0, 1 << 40}
	serial(t, s, r, good())
}

// skew is chapter 16's example 4, in the machine's rows, or 5: the second one lets go of its read of object 0.
func skew(t *testing.T, letGo bool) (machine.Script, machine.Result) {
	t.Helper()
	text := "get r1 @0\nget r2 @1\nadd r1 r1 r2\nif r1 < 2 e\nput @1 0\ne: done r1"
	gone := []api.Row{of(1, api.RowLocal)}
	if letGo {
		text = "get r1 @0\nget r2 @1\ndrop @0\nadd r1 r1 r2\nif r1 < 2 e\nput @1 0\ne: done r1"
		gone = append(gone, release(1, 0))
	}
	s := scripted([]int64{1, 1},
		[]machine.Job{program(t, "get r1 @0\nget r2 @1\nput @0 0\ndone r2")}, []machine.Job{program(t, text)})
	final := func(thread int) api.Row {
		return with(of(thread, api.RowPoint), func(r *api.Row) { r.Phase = api.PhaseFinal })
	}
	s, r := played(s, list(begin(0), begin(1), reads(0, 0, 0, 1), reads(1, 0, 0, 1), reads(0, 1, 1, 1), reads(1, 1, 1, 1), gone,
		writes(0, 0, 0, 1, 0), writes(1, 1, 1, 1, 0), final(0), final(1), commit(0), back(0), commit(1), back(1)))
	r.Answers = [][]api.Answer{{answer(1, 1)}, {answer(2, 1)}}
	return s, r
}

// P16.9, chapter 16's examples 4 and 5.
func TestWriteSkew(t *testing.T) {
	s, r := skew(t, false)
	first := append(fixture.Numbers(1, 1), api.Value{Next: -1})
	opaque(t, first, r.Rows, good())
	moments(t, first, r.Rows, 0, 0, 0, 0)
	moments(t, first, r.Rows, 1, 1, 1, 1)
	serial(t, s, r, breaks(1, 0))

	s, r = skew(t, true)
	opaque(t, first, r.Rows, good())
	serial(t, s, r, good())
	r.Answers[1][0].Result = 1 // what it would be over what the first one left
	serial(t, s, r, breaks(1, -1))
}

// laidSide is a good run by hand: of thread 0 a program, whose first attempt fails, and a call of the set; a program of
// thread 1 in between, and one that has just begun.
func laidSide(t *testing.T) (machine.Script, machine.Result) {
	t.Helper()
	s := scripted([]int64{5, 7},
		[]machine.Job{program(t, one), {Kind: api.JobInsert, Key: 4}}, []machine.Job{program(t, "get r1 @1\ndone r1"), program(t, one)})
	node := api.Value{Num: 4, Next: -1}
	s, r := played(s, list(
		begin(0), reads(0, 0, 0, 5), stutter(), quit(0, api.EndStale), begin(1), // 0 to 4
		again(0), reads(0, 0, 0, 5), reads(1, 1, 0, 7), writes(0, 0, 0, 5, 6), commit(1), // 5 to 9
		commit(0), back(0), begin(0), with(reads(0, 2, 0, 0), func(r *api.Row) { r.Value = api.Value{Next: -1} }), // 10 to 13
		with(writes(0, 3, -1, 0, 0), func(r *api.Row) { r.Value, r.Put = api.Value{Next: -1}, node }), back(1), // 14 and 15
		with(takes(0, 2, 0, 0), func(r *api.Row) { r.Value = api.Value{Next: -1} }), // 16
		with(puts(0, 2, 0), func(r *api.Row) { r.Put = api.Value{Next: 3} }), commit(0), begin(1), back(0)))
	r.Answers[0] = []api.Answer{answer(6, 2), {Outcome: api.EndCommit, Yes: true, Tries: 1}}
	r.Answers[1][0] = answer(7, 1)
	return s, r
}

// P16.5: each condition broken alone.
func TestWhichResultsFit(t *testing.T) {
	s, r := laidSide(t)
	serial(t, s, r, good())
	for _, c := range []struct {
		what  string
		spoil func(s *machine.Script, r *machine.Result)
	}{
		{"a row fewer", func(s *machine.Script, r *machine.Result) { r.Rows = r.Rows[:len(r.Rows)-1] }},
		{"a pick more", func(s *machine.Script, r *machine.Result) { s.Picks = append(s.Picks, -1) }},
		{"a pick fewer", func(s *machine.Script, r *machine.Result) { s.Picks = s.Picks[:len(s.Picks)-1] }},
		{"a row more", func(s *machine.Script, r *machine.Result) { r.Rows = laid(append(r.Rows, stutter())...) }},
		{"no rows", func(s *machine.Script, r *machine.Result) { r.Rows = nil }},
		{"no picks", func(s *machine.Script, r *machine.Result) { s.Picks = nil }},
		{"a row that may not stand", func(s *machine.Script, r *machine.Result) { r.Rows[7].Entry = 1 }},
		{"a first row that may not stand", func(s *machine.Script, r *machine.Result) { r.Rows[0].Seen = 9 }},
		{"a last row that may not stand", func(s *machine.Script, r *machine.Result) { r.Rows[20].Try = 9 }},
		{"the other thread's pick", func(s *machine.Script, r *machine.Result) { s.Picks[7] = 0 }},
		{"nobody's pick", func(s *machine.Script, r *machine.Result) { s.Picks[0] = -1 }},
		{"a pick that is that thread but for its high bits", func(s *machine.Script, r *machine.Result) { s.Picks[20] = 1 << 32 }},
		{"a list of answers more", func(s *machine.Script, r *machine.Result) { r.Answers = append(r.Answers, nil) }},
		{"a list of answers fewer", func(s *machine.Script, r *machine.Result) { r.Answers = r.Answers[:1] }},
		{"no answers", func(s *machine.Script, r *machine.Result) { r.Answers = nil }},
		{"an answer more", func(s *machine.Script, r *machine.Result) { r.Answers[0] = append(r.Answers[0], api.Answer{}) }},
		{"an answer fewer", func(s *machine.Script, r *machine.Result) { r.Answers[1] = r.Answers[1][:1] }},
		{"an answer more here, one fewer there", func(s *machine.Script, r *machine.Result) {
			r.Answers[0], r.Answers[1] = r.Answers[0][:1], append(r.Answers[1], api.Answer{})
		}},
		{"a final value more", func(s *machine.Script, r *machine.Result) { r.Finals = append(r.Finals, api.Value{Next: -1}) }},
		{"a final value fewer", func(s *machine.Script, r *machine.Result) { r.Finals = r.Finals[:3] }},
		{"no final values", func(s *machine.Script, r *machine.Result) { r.Finals = nil }},
		{"a witness that there is not", func(s *machine.Script, r *machine.Result) { r.Rows[9].Phase = api.PhaseNone }},
		{"a thread that there is not", func(s *machine.Script, r *machine.Result) {
			r.Rows[19].Thread, r.Rows[19].Job, s.Picks[19] = 2, 0, 2
		}},
		{"the last thread that may be", func(s *machine.Script, r *machine.Result) {
			r.Rows[19].Thread, r.Rows[19].Job, s.Picks[19] = 5, 0, 5
		}},
		{"a job that there is not", func(s *machine.Script, r *machine.Result) {
			s.Threads[1], r.Answers[1] = s.Threads[1][:1], r.Answers[1][:1]
		}},
		{"a thread without jobs", func(s *machine.Script, r *machine.Result) { s.Threads[1], r.Answers[1] = nil, nil }},
		{"a node more in the script", func(s *machine.Script, r *machine.Result) { s.Threads[1][1] = machine.Job{Kind: api.JobLeast} }},
	} {
		t.Run(c.what, func(t *testing.T) {
			s, r := fixture.Copied(s), copied(r)
			c.spoil(&s, &r)
			if e := machine.Check(s); e != api.OK {
				t.Fatalf("the script: %d", e)
			}
			if _, e := history.Check(r.Rows); (e != api.OK) != strings.HasSuffix(c.what, "may not stand") {
				t.Fatalf("the rows: %d", e)
			}
			refused(t, s, r, api.ErrTxs)
			s.Patience = 0
			refused(t, s, r, api.ErrPatience) // first of all
		})
	}
	// a stutter fits every pick
	for _, pick := range []int64{0, 1, 2, -1, 1 << 62} {
		s.Picks[2] = pick
		serial(t, s, r, good())
	}
}

// A script that may not be: machine.Check's error, whatever the result.
func TestScriptsThatMayNotBe(t *testing.T) {
	for _, c := range []struct {
		why   api.Errno
		spoil func(s *machine.Script)
	}{
		{api.ErrObjects, func(s *machine.Script) { s.Objects = make([]int64, api.MaxMap+1) }},
		{api.ErrThreads, func(s *machine.Script) { s.Threads = nil }},
		{api.ErrJobs, func(s *machine.Script) { s.Threads[0] = make([]machine.Job, api.MaxJobs+1) }},
		{api.ErrJob, func(s *machine.Script) { s.Threads[0][0].Kind = api.JobKinds }},
		{api.ErrCode, func(s *machine.Script) { s.Threads[0][0].Program[0].Dst = 16 }},
		{api.ErrManager, func(s *machine.Script) { s.Manager = api.Managers }},
		{api.ErrPatience, func(s *machine.Script) { s.Patience = -1 }},
		{api.ErrDraws, func(s *machine.Script) { s.Draws = make([]int64, api.MaxDraws+1) }},
		{api.ErrPicks, func(s *machine.Script) { s.Picks = make([]int64, api.MaxPicks+1) }},
	} {
		s, r := laidSide(t)
		c.spoil(&s)
		refused(t, s, r, c.why)
		refused(t, s, machine.Result{}, c.why)
	}
	refused(t, machine.Script{}, machine.Result{}, api.ErrThreads)
}

// judged is an attempt of one job, alone or behind others, and what Serial finds.
type judged struct {
	what string
	job  machine.Job
	rows []api.Row // of thread 0 alone; the last one commits
	want api.Finding
}

// 1. Saws that break, over the numbers 5 and 7; the head is object 2, and object 3 there is not, if the job is a program.
func TestSawsThatBreak(t *testing.T) {
	read := program(t, "get r1 @0\ndone 3")
	dropped := program(t, "get r1 @0\ndrop @0\ndone r1")
	taken := program(t, "put @0 6")
	for _, c := range []judged{
		{"the present number", read, list(begin(0), reads(0, 0, 0, 5), commit(0)), good()},
		{"another one", read, list(begin(0), reads(0, 0, 0, 6), commit(0)), breaks(0, 0)},
		{"another object's", read, list(begin(0), reads(0, 0, 0, 7), commit(0)), breaks(0, 0)},
		{"no object", read, list(begin(0), reads(0, 3, 0, 0), commit(0)), breaks(0, 0)},
		{"an object far away", read, list(begin(0), reads(0, 1<<40, 0, 0), commit(0)), breaks(0, 0)},
		{"an object that no program names", read, list(begin(0), with(reads(0, 2, 0, 0), func(r *api.Row) { r.Value.Next = -1 }), commit(0)), good()},
		{"a second saw", read, list(begin(0), reads(0, 0, 0, 5), reads(0, 1, 1, 8), reads(0, 1, 2, 9), commit(0)), breaks(0, 1)},
		{"without an entry", read, list(begin(0), reads(0, 0, -1, 5), reads(0, 1, -1, 8), commit(0)), breaks(0, 1)},
		{"without an entry, behind a release of the entry -1", read, list(begin(0), reads(0, 0, -1, 6), release(0, -1), commit(0)), breaks(0, 0)},
		{"let go", dropped, list(begin(0), reads(0, 0, 0, 6), release(0, 0), commit(0)), good()},
		{"let go, of no object", dropped, list(begin(0), reads(0, 3, 0, 6), release(0, 0), commit(0)), good()},
		{"another read is let go", dropped, list(begin(0), reads(0, 0, 0, 6), reads(0, 1, 1, 7), release(0, 1), commit(0)), breaks(0, 0)},
		{"let go by another attempt", dropped, list(begin(0), reads(0, 0, 0, 6), release(0, 0), killed(0, api.RowMine), again(0), reads(0, 0, 0, 6), commit(0)), breaks(1, 0)},
		{"told again", read, list(begin(0), reads(0, 0, 0, 5), reread(0, 0, 0, 5), commit(0)), good()},
		{"told again, another one", read, list(begin(0), reads(0, 0, 0, 5), reread(0, 0, 0, 4), commit(0)), breaks(0, 1)},
		{"told again, another one, and let go", dropped, list(begin(0), reads(0, 0, 0, 5), reread(0, 0, 0, 4), release(0, 0), commit(0)), breaks(0, 1)},
		{"told again behind its release", dropped, list(begin(0), reads(0, 0, 0, 5), release(0, 0), reread(0, 0, 0, 5), commit(0)), breaks(0, 1)},
		{"one that is let go, ahead of one that is not", dropped, list(begin(0), reads(0, 0, 0, 6), release(0, 0), reads(0, 0, 1, 6), commit(0)), breaks(0, 1)},
		{"taken", taken, list(begin(0), writes(0, 0, -1, 5, 6), commit(0)), good()},
		{"taken, another one", taken, list(begin(0), writes(0, 0, -1, 4, 6), commit(0)), breaks(0, 0)},
		{"taken, of no object", taken, list(begin(0), writes(0, 3, -1, 5, 6), commit(0)), breaks(0, 0)},
		{"taken with an entry that was let go", taken, list(begin(0), reads(0, 0, 0, 9), release(0, 0), writes(0, 0, 0, 4, 6), commit(0)), breaks(0, 1)},
		{"taken with an entry that is let go later", taken, list(begin(0), reads(0, 0, 0, 5), writes(0, 0, 0, 4, 6), release(0, 0), commit(0)), breaks(0, 1)},
		{"a held read and then taken", taken, list(begin(0), reads(0, 0, 0, 4), writes(0, 0, 0, 5, 6), commit(0)), breaks(0, 0)},
		{"an own one", taken, list(begin(0), puts(0, 0, 6), reread(0, 0, -1, 6), commit(0)), good()},
		{"an own one, another number", taken, list(begin(0), puts(0, 0, 6), reread(0, 0, -1, 5), commit(0)), breaks(0, 0)},
		{"an own one, with a fresh entry", taken, list(begin(0), puts(0, 0, 6), reread(0, 0, 0, 6), commit(0)), good()},
		{"a saw ahead of an object that there is not", taken, list(begin(0), puts(0, 9, 6), reads(0, 1, 0, 6), commit(0)), breaks(0, 0)},
		{"in Next alone", read, list(begin(0), with(reads(0, 0, 0, 5), func(r *api.Row) { r.Value.Next = 1 }), commit(0)), breaks(0, 0)},
		{"in Dead alone", read, list(begin(0), with(reads(0, 0, 0, 5), func(r *api.Row) { r.Value.Dead = true }), commit(0)), breaks(0, 0)},
		{"taken, in Next alone", taken, list(begin(0), with(writes(0, 0, -1, 5, 6), func(r *api.Row) { r.Value.Next = 1 }), commit(0)), breaks(0, 0)},
		{"of one that does not commit", read, list(begin(0), reads(0, 0, 0, 99), quit(0, api.EndStale), again(0), reads(0, 0, 0, 5), commit(0)), good()},
		{"of one that gives itself up", read, list(begin(0), reads(0, 0, 0, 99), quit(0, api.EndUser)), good()},
		{"of one under way", read, list(begin(0), reads(0, 0, 0, 99)), good()},
		{"of one that is not committed, behind one that is", read, list(begin(0), reads(0, 0, 0, 99), killed(0, api.RowMine), again(0), reads(0, 0, 0, 99), commit(0)), breaks(1, 0)},
	} {
		t.Run(c.what, func(t *testing.T) {
			s, r := played(scripted([]int64{5, 7}, []machine.Job{c.job}), c.rows)
			serial(t, s, r, c.want)
		})
	}
}

// 2. Objects that there are not, or that no program may have.
func TestOwnObjectsThatBreak(t *testing.T) {
	none, insert := program(t, ""), machine.Job{Kind: api.JobInsert, Key: 1}
	put := program(t, "put @1 9")
	for _, c := range []judged{
		{"a program's: the last of the shared ones", put, list(begin(0), puts(0, 1, 9), commit(0)), good()},
		{"a program's: the head", none, list(begin(0), puts(0, 2, 9), commit(0)), breaks(0, -1)},
		{"a program's: the head as it was", none, list(begin(0), with(puts(0, 2, 0), func(r *api.Row) { r.Put.Next = -1 }), commit(0)), breaks(0, -1)},
		{"a program's: the head, taken", none, list(begin(0), with(takes(0, 2, -1, 0), func(r *api.Row) { r.Value.Next = -1 }), commit(0)), breaks(0, -1)},
		{"a program's: no object", none, list(begin(0), puts(0, 3, 9), commit(0)), breaks(0, -1)},
		{"a program's: one that is fine and one that is none", put, list(begin(0), puts(0, 1, 9), puts(0, 1<<40, 9), commit(0)), breaks(0, -1)},
		{"a call's: a shared one", insert, list(begin(0), puts(0, 0, 9), commit(0)), good()},
		{"a call's: the head", insert, list(begin(0), puts(0, 2, 9), commit(0)), good()},
		{"a call's: its node", insert, list(begin(0), puts(0, 3, 9), commit(0)), good()},
		{"a call's: no object", insert, list(begin(0), puts(0, 4, 9), commit(0)), breaks(0, -1)},
		{"a call's: far away", insert, list(begin(0), puts(0, 1<<40, 9), commit(0)), breaks(0, -1)},
		{"a call's: a saw that breaks comes first", insert, list(begin(0), puts(0, 4, 9), reads(0, 0, 0, 5), reads(0, 1, 1, 5), commit(0)), breaks(0, 1)},
		{"of one that does not commit", insert, list(begin(0), puts(0, 4, 9), killed(0, api.RowMine)), good()},
	} {
		t.Run(c.what, func(t *testing.T) {
			s, r := played(scripted([]int64{5, 7}, []machine.Job{c.job}), c.rows)
			serial(t, s, r, c.want)
		})
	}
}

// 4. A program beside the model: its outcome and its objects; the reads that are given.
func TestTheModel(t *testing.T) {
	for _, c := range []judged{
		{"it quits", program(t, "quit"), list(begin(0), commit(0)), breaks(0, -1)},
		{"it names a bad object", program(t, "get r1 @2"), list(begin(0), commit(0)), breaks(0, -1)},
		{"it never ends", program(t, "x: goto x"), list(begin(0), commit(0)), breaks(0, -1)},
		{"it ends with the last of the fuel", program(t, "let r2 1\nx: add r1 r1 1\nif r1 < 4999 x\ndone r1"), list(begin(0), commit(0)), good()},
		{"it would end with one more", program(t, "x: add r1 r1 1\nif r1 < 5000 x\ndone r1"), list(begin(0), commit(0)), breaks(0, -1)},
		{"it puts, and the rows do not", program(t, "put @0 6"), list(begin(0), commit(0)), breaks(0, -1)},
		{"it puts nothing, and the rows do", program(t, ""), list(begin(0), puts(0, 0, 6), commit(0)), breaks(0, -1)},
		{"it puts what stands there", program(t, "put @0 5"), list(begin(0), commit(0)), good()},
		{"it puts another number", program(t, "put @0 6"), list(begin(0), puts(0, 0, 8), commit(0)), breaks(0, -1)},
		{"it puts into another object", program(t, "put @0 6"), list(begin(0), puts(0, 1, 6), commit(0)), breaks(0, -1)},
		{"the last put", program(t, "put @0 6"), list(begin(0), puts(0, 0, 8), puts(0, 0, 6), commit(0)), good()},
		{"Next and Dead are not looked at", program(t, "put @0 6"),
			list(begin(0), with(puts(0, 0, 6), func(r *api.Row) { r.Put.Next, r.Put.Dead = 4, true }), commit(0)), good()},
		{"what is given is what was told", program(t, "get r1 @0\ndrop @0\nput @1 r1"),
			list(begin(0), reads(0, 0, 0, 40), release(0, 0), puts(0, 1, 40), commit(0)), good()},
		{"what is given is not what stands there", program(t, "get r1 @0\ndrop @0\nput @1 r1"),
			list(begin(0), reads(0, 0, 0, 40), release(0, 0), puts(0, 1, 5), commit(0)), breaks(0, -1)},
		{"what is not let go is not given", program(t, "get r1 @0\nput @1 r1"),
			list(begin(0), reads(0, 1, 0, 7), puts(0, 1, 5), commit(0)), good()},
		{"a release of the entry -1 gives nothing", program(t, "get r1 @0\nput @1 r1"),
			list(begin(0), reads(0, 1, 0, 7), release(0, -1), puts(0, 1, 5), commit(0)), good()},
		{"the second read is given, the first one not", program(t, "get r1 @0\nget r2 @1\nadd r1 r1 r2\nput @1 r1"),
			list(begin(0), reads(0, 0, 0, 5), reads(0, 1, 1, 30), release(0, 1), puts(0, 1, 35), commit(0)), good()},
		{"a read that is own has its place among the given ones", program(t, "put @0 6\nget r1 @1\ndrop @1\nget r2 @1\nadd r1 r1 r2\nput @0 r1"),
			list(begin(0), puts(0, 0, 6), reread(0, 0, 0, 6), reads(0, 1, 1, 30), release(0, 1), reads(0, 1, 2, 7), puts(0, 0, 37), commit(0)), good()},
		{"and is given, if its entry is let go", program(t, "put @0 6\nget r1 @1\ndrop @1\nget r2 @1\nadd r1 r1 r2\nput @0 r1"),
			list(begin(0), puts(0, 0, 6), reread(0, 0, 0, 6), release(0, 0), reads(0, 1, 1, 30), release(0, 1), puts(0, 0, 36), commit(0)), good()},
		{"the first row with the entry tells what is given", program(t, "get r1 @0\ndrop @0\nput @1 r1"),
			list(begin(0), puts(0, 0, 40), reread(0, 0, 0, 40), puts(0, 0, 41), reread(0, 0, 0, 41), release(0, 0), puts(0, 0, 5), puts(0, 1, 40), commit(0)), good()},
		{"the entry -1 has no place among them", program(t, "get r1 @0\nput @1 r1"),
			list(begin(0), reads(0, 0, -1, 5), reads(0, 1, 0, 70), release(0, 0), puts(0, 1, 70), commit(0)), good()},
	} {
		t.Run(c.what, func(t *testing.T) {
			s, r := played(scripted([]int64{5, 7}, []machine.Job{c.job}), c.rows)
			serial(t, s, r, c.want)
			r.Finals[2].Num = 77
			if c.want == good() {
				serial(t, s, r, breaks(-1, -1))
			} else {
				serial(t, s, r, c.want) // ahead of the finals
			}
		})
	}
}

// 4. The job's answer, if it has answered.
func TestAnswersOfPrograms(t *testing.T) {
	rows := list(begin(0), reads(0, 0, 0, 5), quit(0, api.EndStale), again(0), reads(0, 0, 0, 5), writes(0, 0, 0, 5, 6), commit(0), back(0))
	s, r := played(scripted([]int64{5}, []machine.Job{program(t, one)}), rows)
	open, under := played(s, rows[:len(rows)-1]) // committed, but it has not answered
	for _, c := range []struct {
		answer api.Answer
		want   api.Finding
	}{
		{answer(6, 2), good()},
		{answer(5, 2), breaks(1, -1)},
		{answer(0, 2), breaks(1, -1)},
		{answer(6, 1), breaks(1, -1)},
		{answer(6, 3), breaks(1, -1)},
		{api.Answer{Outcome: api.EndCommit, Result: 6, Yes: true, Tries: 2}, breaks(1, -1)},
		{api.Answer{Outcome: api.EndUser, Result: 6, Tries: 2}, breaks(1, -1)},
		{api.Answer{Outcome: api.EndNone, Result: 6, Tries: 2}, breaks(1, -1)},
		{api.Answer{}, breaks(1, -1)},
	} {
		r.Answers[0][0], under.Answers[0][0] = c.answer, c.answer
		serial(t, s, r, c.want)
		serial(t, open, under, good())
	}
	// the answers of calls of the set, of jobs that did not commit and of those that never began may be anything
	s, r = played(scripted([]int64{5}, []machine.Job{{Kind: api.JobInsert, Key: 3}, program(t, one), program(t, one)}),
		list(begin(0), commit(0), back(0), begin(0), quit(0, api.EndUser), back(0)))
	for n := range 3 {
		serial(t, s, r, good())
		r.Answers[0][n] = api.Answer{Outcome: api.EndBad, Result: 9, Yes: true, Tries: 9}
	}
	serial(t, s, r, good())
	// each job has its own answer, in each thread
	s, r = played(scripted([]int64{5}, []machine.Job{program(t, one)}, []machine.Job{program(t, "done 3"), program(t, one)}),
		list(begin(1), commit(1), back(1), begin(1), reads(1, 0, 0, 5), writes(1, 0, 0, 5, 6), commit(1), back(1),
			begin(0), reads(0, 0, 0, 6), writes(0, 0, 0, 6, 7), commit(0), back(0)))
	r.Answers = [][]api.Answer{{answer(7, 1)}, {answer(3, 1), answer(6, 1)}}
	serial(t, s, r, good())
	for place, wrong := range []*int64{&r.Answers[1][0].Result, &r.Answers[1][1].Result, &r.Answers[0][0].Result} {
		*wrong += 50
		serial(t, s, r, breaks(place, -1))
		*wrong -= 50
	}
}

// The finals, all fields of all values, and nothing ahead of them.
func TestFinals(t *testing.T) {
	s, r := laidSide(t)
	for place := range r.Finals {
		for _, spoil := range []func(v *api.Value){
			func(v *api.Value) { v.Num++ }, func(v *api.Value) { v.Next++ }, func(v *api.Value) { v.Dead = !v.Dead },
		} {
			other := copied(r)
			spoil(&other.Finals[place])
			serial(t, s, other, breaks(-1, -1))
			other.Rows[7].Value.Num++ // thread 1's attempt, ahead of it
			serial(t, s, other, breaks(1, 0))
		}
	}
	// what is put with a Next, or dead, stays so
	s, r = played(scripted([]int64{5}, []machine.Job{program(t, "put @0 6"), program(t, "get r1 @0\ndone r1")}),
		list(begin(0), with(puts(0, 0, 6), func(r *api.Row) { r.Put.Next, r.Put.Dead = 4, true }), commit(0), back(0),
			begin(0), reads(0, 0, 0, 6), commit(0), back(0)))
	r.Answers[0] = []api.Answer{answer(0, 1), answer(6, 1)}
	serial(t, s, r, breaks(1, 0))
	r.Rows[5].Value = api.Value{Num: 6, Next: 4, Dead: true}
	serial(t, s, r, good())
}

// The attempts are gone through in the order of their witnesses, not of their places, their ends or their threads.
func TestTheOrderOfWitnesses(t *testing.T) {
	final := func(thread int) api.Row {
		return with(of(thread, api.RowPoint), func(r *api.Row) { r.Phase = api.PhaseFinal })
	}
	add := program(t, one)
	three := scripted([]int64{5}, []machine.Job{add}, []machine.Job{add}, []machine.Job{add})
	// the places are 0, 1, 2 of the threads 2, 1, 0; the witnesses those of the threads 1, 0, 2; the ends 0, 2, 1
	rows := list(begin(2), begin(1), begin(0),
		reads(1, 0, 0, 5), writes(1, 0, 0, 5, 6), reads(0, 0, 0, 6), writes(0, 0, 0, 6, 7), reads(2, 0, 0, 7), writes(2, 0, 0, 7, 8),
		final(1), final(0), final(2), commit(0), commit(2), commit(1))
	s, r := played(three, rows)
	r.Finals[0].Num = 8 // the last one in that order
	serial(t, s, r, good())
	r.Finals[0].Num = 6 // the last one to commit
	serial(t, s, r, breaks(-1, -1))
	for _, c := range []struct {
		spoilt []int // rows with a wrong number told
		want   api.Finding
	}{
		{[]int{3}, breaks(1, 0)}, {[]int{4}, breaks(1, 1)}, {[]int{5}, breaks(2, 0)}, {[]int{6}, breaks(2, 1)},
		{[]int{7}, breaks(0, 0)}, {[]int{8}, breaks(0, 1)}, {[]int{7, 6, 8}, breaks(2, 1)}, {[]int{7, 4, 5}, breaks(1, 1)},
	} {
		other := copied(r)
		for _, i := range c.spoilt {
			other.Rows[i].Value.Num = 99
		}
		serial(t, s, other, c.want)
	}
	other := copied(r)
	other.Rows[6].Put.Num = 50 // what the model does not put, ahead of one who is told another number for it
	serial(t, s, other, breaks(2, -1))
	other = copied(r)
	other.Rows[9], other.Rows[10] = laid(final(0))[0], laid(final(1))[0] // thread 0's witness ahead of thread 1's
	for i, thread := range []int{0, 1} {
		row := &other.Rows[9+i]
		row.Step, row.Try, row.Attempt = 9+i, 1, []int{3, 2}[i]
		s.Picks[9+i] = int64(thread)
	}
	serial(t, s, other, breaks(2, 0))
}

// Programs and calls of the set, in a run by hand and in the machine's.
func TestProgramsAndCalls(t *testing.T) {
	s, r := laidSide(t)
	serial(t, s, r, good())
	for _, c := range []struct {
		what  string
		spoil func(r *machine.Result)
		want  api.Finding
	}{
		{"the failed one was told anything", func(r *machine.Result) { r.Rows[1].Value.Num = 77 }, good()},
		{"the program's read", func(r *machine.Result) { r.Rows[6].Value.Num = 77 }, breaks(2, 0)},
		{"the program's taking", func(r *machine.Result) { r.Rows[8].Value.Num = 77 }, breaks(2, 1)},
		{"the program's put", func(r *machine.Result) { r.Rows[8].Put.Num = 77 }, breaks(2, -1)},
		{"the call's read of the head", func(r *machine.Result) { r.Rows[13].Value.Next = 3 }, breaks(3, 0)},
		{"the call's taking of its node", func(r *machine.Result) { r.Rows[14].Value.Dead = true }, breaks(3, 1)},
		{"the call's taking of the head", func(r *machine.Result) { r.Rows[16].Value.Next = 3 }, breaks(3, 2)},
		{"what the call puts into its node", func(r *machine.Result) { r.Rows[14].Put.Num = 5 }, breaks(-1, -1)},
		{"what the call puts into the head", func(r *machine.Result) { r.Rows[17].Put.Next = -1 }, breaks(-1, -1)},
		{"what the call answers", func(r *machine.Result) { r.Answers[0][1] = api.Answer{} }, good()},
		{"how often the program was tried", func(r *machine.Result) { r.Answers[0][0].Tries = 1 }, breaks(2, -1)},
		{"what the other program answers", func(r *machine.Result) { r.Answers[1][0].Result = 5 }, breaks(1, -1)},
		{"what nobody has begun", func(r *machine.Result) { r.Answers[1][1].Result = 5 }, good()},
	} {
		t.Run(c.what, func(t *testing.T) {
			other := copied(r)
			c.spoil(&other)
			serial(t, s, other, c.want)
		})
	}
	kinds := []int{api.JobInsert, api.JobRemove, api.JobContains, api.JobLeast, api.JobSize, api.JobMove}
	for _, kind := range kinds {
		s, r := played(scripted(nil, []machine.Job{{Kind: kind}}), list(begin(0), puts(0, 1, 9), puts(0, 0, 8), commit(0), back(0)))
		serial(t, s, r, good())
		r.Finals = slices.Clone(fixture.Numbers(8, 8))
		serial(t, s, r, breaks(-1, -1))
	}
}
