package intset_test

import (
	"testing"

	"braid/api"
	"braid/fixture"
)

// The first rows of a call over the chapter's list: the reads of the head and of the first node.
func begins() []string {
	return []string{
		"none begin -1;-1;-1 @0 0>1",
		"read point 0;-1;-1 @3 0>0", "read status 0;-1;0 @1 2>2", "read mine 0;0;-1 @8 1>1 tells 0,1",
		"read point 1;-1;-1 @4 1>1", "read status 1;-1;0 @1 2>2",
		"read point 0;0;-1 @3 0>0", "read status 0;0;0 @1 2>2", "read mine 1;1;-1 @8 1>1 tells 5,2",
	}
}

// Each of the six calls row by row: insert at the end of the list, where the write behind the walk's end is begun.
func TestInsertRows(t *testing.T) {
	f := lay(t)
	j := f.job(insert(9))
	f.Does(j, first(), begins()...)
	f.Does(j, first(),
		"none release 0;0;-1",
		"read point 2;-1;-1 @5 2>2", "read status 2;-1;0 @1 2>2",
		"read point 1;1;-1 @4 1>1", "read status 1;1;0 @1 2>2", "read mine 2;2;-1 @8 1>1 tells 8,-1",
		"none release 1;1;-1",
		"write point 3;-1;-1 @6 3>3", "write status 3;-1;0 @1 2>2", "write acquire 3;-1;-1 @6 3>4",
		"write point 2;2;-1 @5 2>2", "write status 2;2;0 @1 2>2", "write mine 3;-1;-1 @8 1>1 tells 0,-1 puts 9,-1",
		"write point 2;-1;-1 @5 2>2", "write status 2;-1;0 @1 2>2", "write acquire 2;-1;-1 @5 2>5",
		"write mine 2;2;-1 @8 1>1 tells 8,-1 puts 8,3",
		"final commit -1;-1;-1 @8 1>2 end commit", "none return -1;-1;-1")
	f.Answers(j, yes(0, 1))
}

func TestNotFoundRows(t *testing.T) {
	for _, a := range []ask{contains(9), remove(9)} {
		f := lay(t)
		j := f.job(a)
		f.Does(j, first(), begins()...)
		f.Does(j, first(),
			"none release 0;0;-1",
			"read point 2;-1;-1 @5 2>2", "read status 2;-1;0 @1 2>2",
			"read point 1;1;-1 @4 1>1", "read status 1;1;0 @1 2>2", "read mine 2;2;-1 @8 1>1 tells 8,-1",
			"none release 1;1;-1",
			"final point 2;2;-1 @5 2>2", "final status 2;2;0 @1 2>2", "final commit -1;-1;-1 @8 1>2 end commit",
			"none return -1;-1;-1")
		f.Answers(j, no(1))
	}
}

func TestLeastRows(t *testing.T) {
	f := lay(t)
	j := f.job(least())
	f.Does(j, first(), begins()...)
	f.Does(j, first(),
		"write point 1;-1;-1 @4 1>1", "write status 1;-1;0 @1 2>2", "write acquire 1;-1;-1 @4 1>4",
		"write point 0;0;-1 @3 0>0", "write status 0;0;0 @1 2>2", "write mine 1;1;-1 @8 1>1 tells 5,2 puts 5,2,dead",
		"write point 0;-1;-1 @3 0>0", "write status 0;-1;0 @1 2>2", "write acquire 0;-1;-1 @3 0>5",
		"write mine 0;0;-1 @8 1>1 tells 0,1 puts 0,2",
		"final commit -1;-1;-1 @8 1>2 end commit", "none return -1;-1;-1")
	f.Answers(j, yes(5, 1))
}

func TestSizeRows(t *testing.T) {
	f := lay(t)
	j := f.job(size())
	f.Does(j, first(), begins()...)
	f.Does(j, first(),
		"read point 2;-1;-1 @5 2>2", "read status 2;-1;0 @1 2>2",
		"read point 0;0;-1 @3 0>0", "read status 0;0;0 @1 2>2", "read point 1;1;-1 @4 1>1", "read status 1;1;0 @1 2>2",
		"read mine 2;2;-1 @8 1>1 tells 8,-1",
		"final point 0;0;-1 @3 0>0", "final status 0;0;0 @1 2>2", "final point 1;1;-1 @4 1>1", "final status 1;1;0 @1 2>2",
		"final point 2;2;-1 @5 2>2", "final status 2;2;0 @1 2>2", "final commit -1;-1;-1 @8 1>2 end commit",
		"none return -1;-1;-1")
	f.Answers(j, yes(2, 1))
}

// Over a list without a node the action behind the walk is begun in the step behind the head's read.
func TestRowsWithoutNode(t *testing.T) {
	read := []string{"none begin -1;-1;-1 @0 0>1", "read point 0;-1;-1 @3 0>0", "read status 0;-1;0 @1 2>2", "read mine 0;0;-1 @6 1>1 tells 0,-1"}
	finish := []string{"final point 0;0;-1 @3 0>0", "final status 0;0;0 @1 2>2", "final commit -1;-1;-1 @6 1>2 end commit", "none return -1;-1;-1"}
	for _, a := range []ask{contains(0), remove(0), least(), size()} {
		f := layOver(t, list(1))
		j := f.job(a)
		f.Does(j, first(), read...)
		f.Does(j, first(), finish...)
		f.Answers(j, api.Answer{Outcome: api.EndCommit, Yes: a == size(), Tries: 1})
	}
	f := layOver(t, list(1))
	j := f.job(move(0, 1))
	f.Does(j, first(), read...)
	f.Does(j, first(), "read local 0;0;-1 tells 0,-1")
	f.Does(j, first(), finish...)
	f.Answers(j, no(1))
	f = layOver(t, list(1))
	j = f.job(insert(0))
	f.Does(j, first(), read...)
	f.Does(j, first(),
		"write point 1;-1;-1 @4 1>1", "write status 1;-1;0 @1 2>2", "write acquire 1;-1;-1 @4 1>2",
		"write point 0;0;-1 @3 0>0", "write status 0;0;0 @1 2>2", "write mine 1;-1;-1 @6 1>1 tells 0,-1 puts 0,-1",
		"write point 0;-1;-1 @3 0>0", "write status 0;-1;0 @1 2>2", "write acquire 0;-1;-1 @3 0>3",
		"write mine 0;0;-1 @6 1>1 tells 0,-1 puts 0,1",
		"final commit -1;-1;-1 @6 1>2 end commit", "none return -1;-1;-1")
	f.Answers(j, yes(0, 1))
}

// Under a manager that keeps priorities a value is told, and put, at the boost.
func TestBoost(t *testing.T) {
	for _, kind := range []int{api.Karma, api.Polka} {
		f := layUnder(t, kind, 100, list(1))
		j := f.job(insert(4))
		f.Does(j, first(),
			"none begin -1;-1;-1 @0 0>1",
			"read point 0;-1;-1 @3 0>0", "read status 0;-1;0 @1 2>2", "read mine 0;-1;-1 @6 1>1", "read boost 0;0;-1 @5 0>1 tells 0,-1",
			"write point 1;-1;-1 @4 1>1", "write status 1;-1;0 @1 2>2", "write acquire 1;-1;-1 @4 1>2",
			"write point 0;0;-1 @3 0>0", "write status 0;0;0 @1 2>2", "write mine 1;-1;-1 @6 1>1",
			"write boost 1;-1;-1 @5 1>2 tells 0,-1 puts 4,-1",
			"write point 0;-1;-1 @3 0>0", "write status 0;-1;0 @1 2>2", "write acquire 0;-1;-1 @3 0>3",
			"write mine 0;-1;-1 @6 1>1", "write boost 0;0;-1 @5 2>3 tells 0,-1 puts 0,1",
			"final commit -1;-1;-1 @6 1>2 end commit", "none return -1;-1;-1")
		f.Answers(j, yes(0, 1))
	}
}

// A conflict's rows, at a read of the walk and at the end: the call goes on where it met it.
func TestConflict(t *testing.T) {
	f := layUnder(t, api.Greedy, 50, list(1, 5, 8))
	i, j := f.jobOf(0, 0, insert(6), 0, 3), f.jobOf(1, 3, contains(8), 0, 3)
	who := fixture.By(1, 3, 1, 2)
	f.told(i, 3)
	f.told(i, 1)
	f.told(j, 0)
	f.Does(j, who,
		"read point 1;-1;-1 @4 5>5", "read status 1;-1;1 @8 1>1", "read mine 1;-1;1 @11 1>1",
		"read look 1;-1;1 @9 0>0 wait 4", "read up 1;-1;1 @12 0>1",
		"read wait 1;-1;1 wait 3", "read wait 1;-1;1 wait 2", "read wait 1;-1;1 wait 1")
	f.Until(i, api.RowCommit)
	f.Does(j, who,
		"read wait 1;-1;1", "read point 1;-1;-1 @4 5>5", "read status 1;-1;1 @8 2>2", "read down 1;-1;1 @12 1>0",
		"read point 0;0;-1 @3 0>0", "read status 0;0;0 @1 2>2", "read mine 1;1;-1 @11 1>1 tells 5,3",
		"none release 0;0;-1",
		"read point 3;-1;-1 @6 4>4", "read status 3;-1;1 @8 2>2",
		"read point 1;1;-1 @4 5>5", "read status 1;1;1 @8 2>2", "read mine 3;2;-1 @11 1>1 tells 6,2",
		"none release 1;1;-1",
		"read point 2;-1;-1 @5 2>2", "read status 2;-1;0 @1 2>2",
		"read point 3;2;-1 @6 4>4", "read status 3;2;1 @8 2>2", "read mine 2;3;-1 @11 1>1 tells 8,-1")
	k := f.jobOf(4, 0, remove(8), 0, 3)
	f.told(k, 2)
	f.Until(k, api.RowAcquire)
	f.Does(j, who,
		"final point 3;2;-1 @6 4>4", "final status 3;2;1 @8 2>2",
		"final point 2;3;-1 @5 6>6", "final status 2;3;3 @14 1>1", "final mine 2;3;3 @11 1>1",
		"final look 2;3;3 @15 0>0 abort", "final kill 2;3;3 @14 1>3",
		"final point 2;3;-1 @5 6>6", "final status 2;3;3 @14 3>3",
		"final commit -1;-1;-1 @11 1>2 end commit", "none return -1;-1;-1")
	f.Answers(j, yes(0, 1))
	f.Run(k)
	f.Answers(k, yes(0, 2))
	f.Run(i)
	f.Answers(i, yes(0, 1))
	f.keys(5, 6)
}

// A swap that is lost is gone about anew; what is put is put where it is won.
func TestLostSwap(t *testing.T) {
	f := layOver(t, []api.Value{{Next: -1}, {Num: 7, Next: -1}, {Next: -1}})
	j := f.jobOf(2, 5, insert(4), 0, 1)
	f.told(j, 0)
	f.Does(j, first(), "write point 1;-1;-1 @4 1>1", "write status 1;-1;0 @1 2>2")
	k := f.jobOf(8, 8, insert(9), 1, 2) // to it object 1 is a head
	f.Run(k)
	f.Answers(k, yes(0, 1))
	f.Does(j, first(),
		"write acquire 1;-1;-1 @4 4>4 lost",
		"write point 1;-1;-1 @4 4>4", "write status 1;-1;2 @10 2>2", "write acquire 1;-1;-1 @4 4>6",
		"write point 0;0;-1 @3 0>0", "write status 0;0;0 @1 2>2", "write mine 1;-1;-1 @7 1>1 tells 7,2 puts 4,-1",
		"write point 0;-1;-1 @3 0>0", "write status 0;-1;0 @1 2>2", "write acquire 0;-1;-1 @3 0>7",
		"write mine 0;0;-1 @7 1>1 tells 0,-1 puts 0,1",
		"final commit -1;-1;-1 @7 1>2 end commit", "none return -1;-1;-1")
	f.Answers(j, yes(0, 1))
	f.keys(4)
}

// Two steps within one open step of the memory: the second one has no access left, where it needs one.
func TestTwoWithinOneStep(t *testing.T) {
	f := lay(t)
	j := f.job(contains(6))
	f.Refused(j, api.ErrClosed)
	f.Open()
	f.Must(j, api.RowBegin)
	f.Refused(j, api.ErrClosed)
	f.Refused(j, api.ErrClosed)
	for _, kind := range []int{api.RowPoint, api.RowStatus, api.RowMine, api.RowPoint, api.RowStatus, api.RowPoint, api.RowStatus, api.RowMine} {
		f.Open()
		f.Must(j, kind)
		if kind != api.RowMine {
			f.Refused(j, api.ErrClosed)
		}
	}
	f.Must(j, api.RowRelease)
	f.Refused(j, api.ErrClosed)
	for _, kind := range []int{api.RowPoint, api.RowStatus, api.RowPoint, api.RowStatus, api.RowMine, api.RowPoint, api.RowStatus, api.RowPoint, api.RowStatus, api.RowCommit} {
		f.Refused(j, api.ErrClosed)
		f.Open()
		f.Must(j, kind)
	}
	f.Must(j, api.RowReturn)
	f.Refused(j, api.ErrEnded)
	f.Answers(j, no(1))
}

// Where a step is refused it is the same step that comes next, whichever it is: at the begin of each action, too.
func TestRefusedAnywhere(t *testing.T) {
	for _, a := range each() {
		f := lay(t)
		want := f.Run(f.job(a))
		for at := range want {
			f := lay(t)
			j := f.job(a)
			for k, row := range want {
				if k == at && row.Cell != -1 {
					f.Refused(j, api.ErrClosed)
					f.Refused(j, api.ErrClosed)
				}
				if got := f.Step(j); got != row {
					t.Fatalf("%v: refused ahead of step %d: row %d is %q, want %q", a, at, k, fixture.Row(got), fixture.Row(row))
				}
			}
		}
	}
}
