package intset_test

import (
	"fmt"
	"math"
	"testing"

	"braid/api"
	"braid/fixture"
)

// nowhere are numbers that are no object of a world of four. In fewer bits some of them would be one.
func nowhere() []int {
	return []int{-1, -2, -3, -4, math.MinInt, math.MinInt + 1, math.MinInt32, -1 << 32, 4, 5, 80, 256, 257, 1 << 32, 1<<32 + 1, 1<<33 + 2, math.MaxInt32, math.MaxInt}
}

// Where a Next is no object of the world the list ends there, whatever number it is: an insert lays -1 over it, a remove
// hands it on.
func TestNextNotThere(t *testing.T) {
	for _, next := range nowhere() {
		values := list(1, 5, 8)
		values[2].Next = next
		for _, c := range []did{
			{ask: contains(8), does: "get 0, get 1, drop 0/0, get 2, commit", answer: yes(0, 1)},
			{ask: contains(9), does: "get 0, get 1, drop 0/0, get 2, drop 1/1, commit", answer: no(1)},
			{ask: insert(9), does: "get 0, get 1, drop 0/0, get 2, drop 1/1, put 3 9>-1, put 2 8>3, commit", answer: yes(0, 1)},
			{ask: insert(6), does: "get 0, get 1, drop 0/0, get 2, put 3 6>2, put 1 5>3, commit", answer: yes(0, 1)},
			{ask: remove(8), does: fmt.Sprintf("get 0, get 1, drop 0/0, get 2, put 2 8>%d!, put 1 5>%d, commit", next, next), answer: yes(0, 1)},
			{ask: remove(9), does: "get 0, get 1, drop 0/0, get 2, drop 1/1, commit", answer: no(1)},
			{ask: least(), does: "get 0, get 1, put 1 5>2!, put 0 0>2, commit", answer: yes(5, 1)},
			{ask: size(), does: "get 0, get 1, get 2, commit", answer: yes(2, 1)},
			{ask: move(8, 9), does: fmt.Sprintf("get 0, get 1, get 2, get 0, get 1, get 2, put 2 8>%d!, put 1 5>%d, get 0, get 1, put 3 9>-1, put 1 5>3, commit", next, next), answer: yes(0, 1)},
			{ask: move(5, 9), does: "get 0, get 1, get 2, get 0, get 1, put 1 5>2!, put 0 0>2, get 0, get 2, put 3 9>-1, put 2 8>3, commit", answer: yes(0, 1)},
			{ask: move(6, 9), does: "get 0, get 1, get 2, get 0, get 1, get 2, commit", answer: no(1)},
			{ask: move(9, 6), does: "get 0, get 1, get 2, get 0, get 1, get 2, commit", answer: no(1)},
		} {
			f := layOver(t, values)
			f.does(f.job(c.ask), c.does, c.answer)
		}
		f := layOver(t, []api.Value{{Num: 3, Next: 1}, {Num: 5, Next: next}, {}, {}})
		f.does(f.job(least()), fmt.Sprintf("get 0, get 1, put 1 5>%d!, put 0 3>%d, commit", next, next), yes(5, 1))
	}
}

func TestHeadsNextNotThere(t *testing.T) {
	for _, next := range nowhere() {
		for _, c := range []did{
			{ask: contains(3), does: "get 0, commit", answer: no(1)},
			{ask: contains(0), does: "get 0, commit", answer: no(1)},
			{ask: insert(3), does: "get 0, put 3 3>-1, put 0 3>3, commit", answer: yes(0, 1)},
			{ask: insert(0), does: "get 0, put 3 0>-1, put 0 3>3, commit", answer: yes(0, 1)},
			{ask: remove(3), does: "get 0, commit", answer: no(1)},
			{ask: remove(0), does: "get 0, commit", answer: no(1)},
			{ask: least(), does: "get 0, commit", answer: no(1)},
			{ask: size(), does: "get 0, commit", answer: yes(0, 1)},
			{ask: move(3, 0), does: "get 0, get 0, commit", answer: no(1)},
			{ask: move(0, 3), does: "get 0, get 0, commit", answer: no(1)},
		} {
			f := layOver(t, []api.Value{{Num: 3, Next: next}, {}, {}, {}})
			f.does(f.job(c.ask), c.does, c.answer)
		}
	}
}

// each are calls of all six kinds.
func each() []ask {
	return []ask{insert(6), insert(5), remove(5), remove(6), contains(8), contains(9), least(), size(), move(5, 9), move(5, 8), move(6, 9), move(8, 1)}
}

// A call whose head is no object of the world gives up in its first step behind the begin.
func TestHeadNotThere(t *testing.T) {
	for _, head := range []int{4, 5, 79, 80, 256, 1 << 32, 1<<32 + 1, math.MaxInt32, math.MaxInt} {
		for _, a := range each() {
			f := lay(t)
			j := f.jobOf(2, 5, a, head, 3)
			f.Does(j, first(), "none begin -1;-1;-1 @0 0>1", "quit quit -1;-1;-1 @8 1>3 end bad", "none return -1;-1;-1")
			f.Answers(j, bad(1))
			f.committed(list(1, 5, 8)...)
		}
	}
}

// A call whose node is no object of the world gives up where it would write it: behind the walk, of a move behind the
// writes that take the key out. Where it would not, nobody asks for it.
func TestNodeNotThere(t *testing.T) {
	for _, node := range []int{4, 5, 79, 80, 256, 1 << 32, 1<<32 + 1, math.MaxInt32, math.MaxInt} {
		for _, c := range []did{
			{ask: insert(1), does: "get 0, get 1, bad", answer: bad(1)},
			{ask: insert(6), does: "get 0, get 1, drop 0/0, get 2, bad", answer: bad(1)},
			{ask: insert(9), does: "get 0, get 1, drop 0/0, get 2, drop 1/1, bad", answer: bad(1)},
			{ask: move(5, 9), does: "get 0, get 1, get 2, get 0, get 1, put 1 5>2!, put 0 0>2, get 0, get 2, bad", answer: bad(1)},
			{ask: move(8, 1), does: "get 0, get 1, get 0, get 1, get 2, put 2 8>-1!, put 1 5>-1, get 0, get 1, bad", answer: bad(1)},
			{ask: insert(5), does: "get 0, get 1, commit", answer: no(1)},
			{ask: move(5, 8), does: "get 0, get 1, get 2, commit", answer: no(1)},
			{ask: move(6, 9), does: "get 0, get 1, get 2, get 0, get 1, get 2, commit", answer: no(1)},
			{ask: contains(5), does: "get 0, get 1, commit", answer: yes(0, 1)},
			{ask: remove(6), does: "get 0, get 1, drop 0/0, get 2, commit", answer: no(1)},
			{ask: size(), does: "get 0, get 1, get 2, commit", answer: yes(2, 1)},
		} {
			f := lay(t)
			f.does(f.jobOf(2, 5, c.ask, 0, node), c.does, c.answer)
			f.committed(list(1, 5, 8)...)
		}
		f := lay(t)
		f.does(f.jobOf(2, 5, remove(5), 0, node), "get 0, get 1, put 1 5>2!, put 0 0>2, commit", yes(0, 1))
		f.does(f.jobOf(2, 5, least(), 0, node), "get 0, get 2, put 2 8>-1!, put 0 0>-1, commit", yes(8, 1))
	}
}

// Where an enemy was quicker than the giving up, the next attempt gives up.
func TestGivesUpAgain(t *testing.T) {
	f := lay(t)
	j := f.jobOf(2, 5, size(), 9, 3)
	f.Does(j, first(), "none begin -1;-1;-1 @0 0>1")
	f.Killed(1)
	f.Does(j, first(), "quit quit -1;-1;-1 @8 3>3 lost end killed")
	f.Does(j, fixture.By(2, 5, 2, 2), "none again -1;-1;-1", "quit quit -1;-1;-1 @10 1>3 end bad", "none return -1;-1;-1")
	f.Answers(j, bad(2))
}

// A list that comes back to a node: size goes on, one step after the other, and a walk to a greater key too.
func TestCircle(t *testing.T) {
	for _, c := range []struct {
		values []api.Value
		round  []int
	}{
		{[]api.Value{{Next: 1}, {Num: 5, Next: 2}, {Num: 8, Next: 1}, {}}, []int{1, 2}},
		{[]api.Value{{Next: 1}, {Num: 5, Next: 2}, {Num: 8, Next: 0}, {}}, []int{0, 1, 2}},
		{[]api.Value{{Next: 2}, {}, {Num: 8, Next: 2}, {}}, []int{2}},
		{[]api.Value{{Next: 0}, {}, {}, {}}, []int{0}},
	} {
		for _, a := range []ask{size(), move(9, 10), move(9, math.MaxInt64)} {
			f := layOver(t, c.values)
			j := f.job(a)
			f.told(j, c.round[len(c.round)-1])
			var told []int
			for range 600 {
				f.Open()
				r, e := j.Step()
				f.OK(e)
				if r.Told {
					told = append(told, r.Object)
				}
				if j.Over() || j.Answer() != (api.Answer{}) || r.Kind == api.RowRelease {
					t.Fatalf("%v over %v: %q", a, c.values, fixture.Row(r))
				}
			}
			f.goesRound(told[2:], c.round)
			if len(told) < 595 {
				t.Errorf("%v over %v: %d were told", a, c.values, len(told))
			}
		}
		for _, a := range []ask{contains(9), insert(9), remove(9)} {
			f := layOver(t, c.values)
			j := f.job(a)
			var told []int
			entry := 0
			for range 600 {
				r := f.Step(j)
				if r.Told {
					told = append(told, r.Object)
				}
				if r.Kind == api.RowRelease && r.Entry > entry {
					entry = r.Entry
				}
				if j.Over() || r.Puts || r.Phase == api.PhaseFinal {
					t.Fatalf("%v over %v: %q", a, c.values, fixture.Row(r))
				}
			}
			f.goesRound(told[2:], c.round)
			if entry < 80 {
				t.Errorf("%v over %v: %d was the last entry", a, c.values, entry)
			}
		}
	}
}

// goesRound looks that objects are told in a round.
func (f *floor) goesRound(told, round []int) {
	f.Helper()
	at := 0
	for round[at] != told[0] {
		at++
	}
	for k, object := range told {
		if want := round[(at+k)%len(round)]; object != want {
			f.Fatalf("%d, want %d, in %v", object, want, told)
		}
	}
}

// Rows of a walk that stays at one node: what it lets go of is what it reads anew.
func TestCircleRows(t *testing.T) {
	f := layOver(t, []api.Value{{Next: 1}, {Num: 5, Next: 1}, {}, {}})
	j := f.job(contains(9))
	f.told(j, 1)
	f.Does(j, first(),
		"none release 0;0;-1", "read local 1;1;-1 tells 5,1", "none release 1;1;-1",
		"read point 1;-1;-1 @4 1>1", "read status 1;-1;0 @1 2>2", "read mine 1;2;-1 @8 1>1 tells 5,1", "none release 1;2;-1",
		"read point 1;-1;-1 @4 1>1", "read status 1;-1;0 @1 2>2", "read mine 1;3;-1 @8 1>1 tells 5,1", "none release 1;3;-1")
}

// On lists that are none the steps are as told all the same.
func TestNoList(t *testing.T) {
	for _, c := range []struct {
		values []api.Value
		did    did
	}{
		// the walk ends within a circle
		{[]api.Value{{Next: 1}, {Num: 5, Next: 2}, {Num: 8, Next: 1}, {}}, did{ask: insert(6), does: "get 0, get 1, drop 0/0, get 2, put 3 6>2, put 1 5>3, commit", answer: yes(0, 1)}},
		{[]api.Value{{Next: 1}, {Num: 5, Next: 2}, {Num: 8, Next: 1}, {}}, did{ask: remove(8), does: "get 0, get 1, drop 0/0, get 2, put 2 8>1!, put 1 5>1, commit", answer: yes(0, 1)}},
		// the head is its own node
		{[]api.Value{{Num: 5}, {}, {}, {}}, did{ask: remove(5), does: "get 0, get 0, put 0 5>0!, put 0 5>0, commit", answer: yes(0, 1)}},
		{[]api.Value{{Num: 5}, {}, {}, {}}, did{ask: least(), does: "get 0, get 0, put 0 5>0!, put 0 5>0, commit", answer: yes(5, 1)}},
		{[]api.Value{{Num: 5}, {}, {}, {}}, did{ask: insert(2), does: "get 0, get 0, put 3 2>0, put 0 5>3, commit", answer: yes(0, 1)}},
		// the node is linked already
		{[]api.Value{{Next: 3}, {}, {}, {Num: 4, Next: -1}}, did{ask: insert(2), does: "get 0, get 3, put 3 2>3, put 0 0>3, commit", answer: yes(0, 1)}},
		{[]api.Value{{Next: 3}, {}, {}, {Num: 4, Next: -1}}, did{ask: insert(9), does: "get 0, get 3, drop 0/0, put 3 9>-1, put 3 4>3, commit", answer: yes(0, 1)}},
		// keys that do not rise: the first that is as great ends the walk
		{[]api.Value{{Next: 1}, {Num: 8, Next: 2}, {Num: 5, Next: -1}, {}}, did{ask: contains(5), does: "get 0, get 1, commit", answer: no(1)}},
		{[]api.Value{{Next: 1}, {Num: 8, Next: 2}, {Num: 8, Next: -1}, {}}, did{ask: remove(8), does: "get 0, get 1, put 1 8>2!, put 0 0>2, commit", answer: yes(0, 1)}},
		{[]api.Value{{Next: 1}, {Num: 8, Next: 2}, {Num: 5, Next: -1}, {}}, did{ask: size(), does: "get 0, get 1, get 2, commit", answer: yes(2, 1)}},
		{[]api.Value{{Next: 1}, {Num: 8, Next: 2}, {Num: 5, Next: -1}, {}}, did{ask: least(), does: "get 0, get 1, put 1 8>2!, put 0 0>2, commit", answer: yes(8, 1)}},
		// a move whose other key comes up as the key goes out: what it has put so far is committed with it
		{[]api.Value{{Next: 1}, {Num: 5, Next: 2}, {Num: 3, Next: -1}, {}}, did{ask: move(5, 3), does: "get 0, get 1, get 0, get 1, put 1 5>2!, put 0 0>2, get 0, get 2, commit", answer: no(1)}},
	} {
		f := layOver(t, c.values)
		f.does(f.job(c.did.ask), c.did.does, c.did.answer)
	}
}
