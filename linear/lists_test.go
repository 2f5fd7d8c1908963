package linear_test

import (
	"slices"
	"testing"

	"braid/api"
	"braid/linear"
	"braid/machine"
)

func callsOf(t *testing.T, s machine.Script, r machine.Result) []api.Call {
	t.Helper()
	calls, e := linear.Calls(s, r)
	if e != api.OK {
		t.Fatalf("Calls = %d", e)
	}
	return calls
}

func listsOf(t *testing.T, s machine.Script, r machine.Result) int {
	t.Helper()
	step, e := linear.Lists(s, r)
	if e != api.OK {
		t.Fatalf("Lists = %d", e)
	}
	return step
}

// grown is a run by hand over one number: objects 1, the head, and 2 to 4, the nodes of three inserts, of 5, 3 and 9; a
// program commits between.
func grown() (machine.Script, machine.Result) {
	s := scripted([]int64{7}, []machine.Job{job(api.JobInsert, 5), job(api.JobInsert, 3), job(api.JobInsert, 9)}, []machine.Job{{}})
	return played(s, laid(
		begin(0), links(0, 2, node(5, -1)), links(0, 1, node(0, 2)), commit(0), // commits at 3
		stutter(), back(0), begin(0), begin(1), // 4 to 7
		links(0, 3, node(3, 2)), links(0, 1, node(0, 3)), commit(1), commit(0), // 8 to 11: commits at 10 and 11
		back(0), back(1), begin(0), links(0, 4, node(9, -1)), // 12 to 15
		links(0, 2, node(5, 4)), commit(0), stutter(), back(0), // 16 to 19: commits at 17
	))
}

func TestListsByHand(t *testing.T) {
	s, r := grown()
	lists(t, s, r, -1)
	for k := range len(r.Rows) {
		part := r
		part.Rows = r.Rows[:k]
		lists(t, s, part, -1)
	}
	s, r = played(s, nil)
	lists(t, s, r, -1)
	s, r = played(s, laid(stutter(), begin(0)))
	lists(t, s, r, -1)
}

// A list that is spoilt at a step is told at that step, and not at one behind it.
func TestSpoiltLists(t *testing.T) {
	for _, c := range []struct {
		what string
		row  int
		put  api.Value
		want int
	}{
		{"a key", 1, node(6, -1), 3},
		{"a dead node", 1, api.Value{Num: 5, Next: -1, Dead: true}, 3},
		{"a node behind its own", 1, node(5, 2), 3},
		{"the head behind a node", 1, node(5, 1), 3},
		{"a next that is no object", 1, node(5, 5), 3},
		{"a next below -1", 1, node(5, -2), 3},
		{"a next that is a number's object", 1, node(5, 0), 3},
		{"a node that is not linked behind it", 1, node(5, 3), 3},
		{"a head without a node", 2, node(0, -1), 3},
		{"a head before another node", 2, node(0, 4), 3},
		{"the head's number", 2, node(88, 2), -1},
		{"a dead head", 2, api.Value{Next: 2, Dead: true}, -1},
		{"a second key too great", 8, node(6, 2), 11},
		{"a second key twice", 8, node(5, 2), 11},
		{"a second key alone", 8, node(3, -1), 11},
		{"a second key otherwise", 8, node(4, 2), 11},
		{"the second node is left out", 9, node(0, 2), 11},
		{"a third key too small", 15, node(4, -1), 17},
		{"a third node is left out", 16, node(5, -1), 17},
		{"the second key as the third goes in", 16, node(2, 4), 17},
	} {
		t.Run(c.what, func(t *testing.T) {
			s, r := grown()
			r.Rows[c.row].Put = c.put
			lists(t, s, r, c.want)
			for k := range len(r.Rows) { // and of a beginning that is too short for it nothing is told
				part := r
				part.Rows = r.Rows[:k]
				want := -1
				if c.want != -1 && k > c.want {
					want = c.want
				}
				lists(t, s, part, want)
			}
		})
	}
}

// A list that is mended again was spoilt all the same; of several spoilt steps the first is told.
func TestTheFirstSpoiltStep(t *testing.T) {
	s, r := grown()
	r.Rows[2].Put.Next = 4 // mended at 11, where the head is put again
	lists(t, s, r, 3)
	r.Rows[9].Put.Next = 4
	lists(t, s, r, 3)
	r.Rows[2].Put.Next = 2
	lists(t, s, r, 11)
}

// What a program puts into the list is looked at like all else; so is an object that is not there.
func TestProgramsInTheList(t *testing.T) {
	for _, c := range []struct {
		row  api.Row
		want int
	}{
		{links(1, 1, node(0, -1)), 10}, {links(1, 2, node(5, 4)), 10}, {links(1, 0, node(5, 4)), -1}, {links(1, 99, node(5, 4)), -1},
		{links(1, 3, node(5, 4)), -1}, {links(1, 4, node(9, 4)), -1}, {links(1, 1, node(4, 2)), -1},
	} {
		s, r := grown()
		c.row.Thread = 1
		rows := slices.Insert(slices.Clone(r.Rows), 8, c.row)
		s, r = played(s, laid(rows...))
		if c.want >= 0 {
			c.want++
		}
		lists(t, s, r, c.want)
	}
}

// Attempts that do not commit leave the list as it was, and a call has its effect with its commit.
func TestListsOfWhatFails(t *testing.T) {
	s := scripted(nil, []machine.Job{job(api.JobInsert, 5)}, []machine.Job{job(api.JobInsert, 6)})
	junk := links(0, 0, node(0, 77))
	put, head := links(0, 1, node(5, -1)), links(0, 0, node(0, 1))
	for _, end := range []api.Row{quit(0, api.EndStale), killed(0, api.RowCommit)} {
		s, r := played(s, laid(begin(0), junk, end, again(0), put, head, stutter(), commit(0), back(0)))
		lists(t, s, r, -1)
		s, r = played(s, laid(begin(0), junk, end, again(0), put, stutter(), commit(0), back(0)))
		lists(t, s, r, 6)
	}
	for _, end := range []int{api.EndUser, api.EndBad} {
		s, r := played(s, laid(begin(0), junk, quit(0, end), back(0), begin(1), commit(1)))
		lists(t, s, r, 5) // it should have put 6
		s, r = played(s, laid(begin(0), junk, quit(0, end), back(0), begin(1)))
		lists(t, s, r, -1)
	}
	s, r := played(s, laid(begin(0), junk, begin(1), links(1, 2, node(6, -1)), links(1, 0, node(0, 2)), commit(1)))
	lists(t, s, r, -1)
}

// The calls that have committed by a step count in the order of their Points, not in that of their commits.
func TestListsByPoints(t *testing.T) {
	s := scripted(nil, []machine.Job{job(api.JobRemove, 5)}, []machine.Job{job(api.JobInsert, 5)})
	put, head := links(1, 2, node(5, -1)), links(1, 0, node(0, 2))
	ahead := laid(begin(0), begin(1), put, head, final(0), final(1), commit(1), back(1), commit(0))
	s, r := played(s, ahead)
	told(t, s, r, remove(5, false, 0, 4, -1), insert(5, false, 1, 5, 7))
	lists(t, s, r, -1) // the remove's turn was ahead of the insert's: 5 is in
	gone := links(0, 0, node(0, -1))
	s, r = played(s, laid(begin(0), begin(1), put, head, gone, final(0), final(1), commit(1), back(1), commit(0)))
	lists(t, s, r, 9)
	s, r = played(s, laid(begin(0), begin(1), put, head, gone, final(1), final(0), commit(1), back(1), commit(0)))
	lists(t, s, r, -1)
	s, r = played(s, laid(begin(0), begin(1), put, head, final(1), final(0), commit(1), back(1), commit(0)))
	lists(t, s, r, 8)
	// three, of which the middle one by its Point commits last: behind each commit the others are laid anew
	s = scripted(nil, []machine.Job{job(api.JobInsert, 5)}, []machine.Job{job(api.JobMove, 5, 8)}, []machine.Job{job(api.JobLeast)})
	five, eight := links(0, 1, node(5, -1)), links(1, 2, node(8, -1))
	s, r = played(s, laid(begin(0), begin(1), begin(2), five, eight, links(0, 0, node(0, 1)), final(0), final(1), final(2),
		commit(0), links(2, 0, node(0, -1)), commit(2), back(2), back(0), commit(1)))
	lists(t, s, r, -1) // 5 is in; then least has taken it; then it had been moved to 8 ahead of that
	s, r = played(s, laid(begin(0), begin(1), begin(2), five, eight, links(0, 0, node(0, 1)), final(0), final(2), final(1),
		commit(0), links(2, 0, node(0, -1)), links(1, 0, node(0, 2)), commit(2), back(2), back(0), commit(1)))
	lists(t, s, r, 15) // behind the least there is nothing left to move
}

// The answers are not looked at, but for how many there are.
func TestListsWithoutAnswers(t *testing.T) {
	s, r := grown()
	for j := range r.Answers[0] {
		r.Answers[0][j] = api.Answer{Outcome: api.EndBad, Result: 99, Yes: true, Tries: 5}
	}
	lists(t, s, r, -1)
	if at, e := linear.ByPoints(callsOf(t, s, r)); at != 0 || e != api.OK {
		t.Errorf("ByPoints = %d, %d", at, e)
	}
}
