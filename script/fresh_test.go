package script_test

import (
	"runtime"
	"slices"
	"sync"
	"testing"
	"time"

	"braid/api"
	"braid/fixture"
	"braid/lang"
	"braid/machine"
	"braid/script"
)

const sample = "objects 5 6\nmanager greedy 9\ndraws 1 2 3\nthread\nprogram\n" + adds + "end\ninsert 4\nprogram\n" + adds + "end\n" +
	"thread\nprogram\n" + adds + "end\nthread\npicks 0 1 0 1 2 0*30 1*40\npicks 0*60"

// spoilScript writes all lists of a script full, and their spare room.
func spoilScript(s machine.Script) {
	for _, jobs := range s.Threads {
		for _, j := range jobs[:cap(jobs)] {
			fixture.Full(j.Program, lang.Instr{Code: -7})
		}
		fixture.Full(jobs, machine.Job{Kind: -7, Key: -7})
	}
	fixture.Full(s.Threads, []machine.Job{{Kind: -8}})
	fixture.Full(s.Objects, -7)
	fixture.Full(s.Draws, -7)
	fixture.Full(s.Picks, -7)
}

// R3: what was answered is the caller's, its spare room too.
func TestAnswersAreNew(t *testing.T) {
	kept := reads(t, sample)
	other := fixture.Copied(kept)
	spoilScript(reads(t, sample))
	says(t, sample, other)
	if !fixture.SameScript(kept, other) {
		t.Errorf("%+v, want %+v", kept, other)
	}
	text := "1 - stutter\n" + fullLine + "\n"
	rows, _, _ := script.Rows(text)
	again, _, _ := script.Rows(text)
	fixture.Full(rows, api.Row{Step: -7})
	if script.Trace(again) != text {
		t.Errorf("%+v", again)
	}
	traced(t, text, again...)
}

// R3: no two lists of one answer share any memory, their spare room neither.
func TestListsOfOneAnswer(t *testing.T) {
	for which := range 8 {
		s := reads(t, sample)
		want := fixture.Copied(s)
		switch which {
		case 0:
			fixture.Full(s.Objects, -7)
			s.Objects = want.Objects
		case 1:
			fixture.Full(s.Draws, -7)
			s.Draws = want.Draws
		case 2:
			fixture.Full(s.Picks, -7)
			s.Picks = want.Picks
		case 3:
			fixture.Full(s.Threads[0], machine.Job{Kind: -7})
			s.Threads[0] = want.Threads[0]
		case 4:
			fixture.Full(s.Threads[1], machine.Job{Kind: -7})
			s.Threads[1] = want.Threads[1]
		case 5, 6:
			n := 2 * (which - 5)
			fixture.Full(s.Threads[0][n].Program, lang.Instr{Code: -7})
			s.Threads[0][n].Program = want.Threads[0][n].Program
		case 7:
			fixture.Full(s.Threads, nil)
			s.Threads = want.Threads
		}
		if !fixture.SameScript(s, want) {
			t.Errorf("%d: %+v, want %+v", which, s, want)
		}
	}
}

// R3: what is handed in stays as it was, the room behind it too.
func TestHandedIn(t *testing.T) {
	s := reads(t, sample)
	s.Picks = append(s.Picks, 1, 2, 3)[:len(s.Picks)]
	s.Objects = append(s.Objects, 7, 8)[:2]
	kept, picks, objects := fixture.Copied(s), slices.Clone(s.Picks[:cap(s.Picks)]), slices.Clone(s.Objects[:cap(s.Objects)])
	script.Print(s)
	if !fixture.SameScript(s, kept) || !slices.Equal(s.Picks[:cap(s.Picks)], picks) || !slices.Equal(s.Objects[:cap(s.Objects)], objects) {
		t.Errorf("%+v, want %+v", s, kept)
	}
	rows := []api.Row{full(), fixture.Stutter(), full()}
	script.Trace(rows[:1])
	if rows[0] != full() || rows[1] != fixture.Stutter() || rows[2] != full() {
		t.Errorf("%+v", rows)
	}
}

// R4 and R6: the same answers, however often and by however many at once; no goroutine is left.
func TestTheSameAgain(t *testing.T) {
	s := reads(t, sample)
	text, out, found := printed(t, s), ran(t, sample), judged(t, sample)
	r, _ := machine.Run(s)
	trace := script.Trace(r.Rows)
	before := runtime.NumGoroutine()
	var all sync.WaitGroup
	for range 6 {
		all.Go(func() {
			for range 15 {
				if got, _, e := script.Parse(sample); e != api.OK || !fixture.SameScript(got, s) {
					t.Errorf("Parse = %+v, %d", got, e)
				}
				if _, line, e := script.Parse(sample + "\nthread"); line != 28 || e != api.ErrLine {
					t.Errorf("Parse: line %d, error %d", line, e)
				}
				if got, e := script.Print(s); e != api.OK || got != text {
					t.Errorf("Print = %q, %d", got, e)
				}
				if got, _, e := script.Run(sample); e != api.OK || got != out {
					t.Errorf("Run = %q, %d", got, e)
				}
				if got, _, e := script.Judged(sample); e != api.OK || got != found {
					t.Errorf("Judged = %q, %d", got, e)
				}
				if got := script.Trace(r.Rows); got != trace {
					t.Errorf("Trace = %q", got)
				}
				if got, _, e := script.Rows(trace); e != api.OK || !slices.Equal(got, r.Rows) {
					t.Errorf("Rows = %+v, %d", got, e)
				}
			}
		})
	}
	all.Wait()
	for range 1000 { // one that has done its work may take a moment to be gone
		if runtime.NumGoroutine() <= before {
			return
		}
		time.Sleep(time.Millisecond)
	}
	t.Errorf("%d goroutines, %d ahead of the calls", runtime.NumGoroutine(), before)
}
