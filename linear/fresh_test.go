package linear_test

import (
	"slices"
	"sync"
	"testing"

	"braid/api"
	"braid/fixture"
	"braid/linear"
	"braid/machine"
)

// roomy gives a list with room behind it.
func roomy[T any](list []T) []T { return append(make([]T, 0, len(list)+5), list...) }

// R3: no call changes what it is given, the room behind it too.
func TestHandedIn(t *testing.T) {
	d := fixture.NewDice()
	for range 300 {
		calls := roomy(thrownCalls(&d, d.Below(10)))
		if len(calls) > 0 && d.Below(3) == 0 {
			calls[d.Below(len(calls))].Kind = 7
		}
		kept := slices.Clone(calls[:cap(calls)])
		linear.ByPoints(calls)
		linear.Search(calls)
		linear.Keys(calls)
		if !slices.Equal(calls[:cap(calls)], kept) {
			t.Fatal("the calls were changed")
		}
	}
	for n := range 60 {
		s := fixture.Thrown(&d, n)
		r := run(t, s)
		r.Rows, r.Finals, r.Answers = roomy(r.Rows), roomy(r.Finals), roomy(r.Answers)
		if n%3 == 0 {
			spoils(&d, &s, &r)
		}
		keptScript, kept, room := fixture.Copied(s), copied(r), slices.Clone(r.Rows[:cap(r.Rows)])
		linear.Calls(s, r)
		linear.Lists(s, r)
		if !fixture.SameScript(s, keptScript) || !fixture.SameResult(r, kept) || !slices.Equal(r.Rows[:cap(r.Rows)], room) {
			t.Fatal("a script or a result was changed")
		}
	}
}

// R3: what was answered is the caller's, its spare room too, and what was handed in is not kept.
func TestAnswersAreNew(t *testing.T) {
	s, r := many()
	a, b := callsOf(t, s, r), callsOf(t, s, r)
	want := slices.Clone(a)
	fixture.Full(a, api.Call{Kind: 99})
	if !slices.Equal(b, want) {
		t.Errorf("Calls = %+v", b)
	}
	told(t, s, r, want...)
	fixture.Full(r.Rows, stutter())
	fixture.Full(r.Answers[0], api.Answer{Result: 88})
	fixture.Full(s.Threads[0], machine.Job{})
	if !slices.Equal(b, want) {
		t.Errorf("Calls = %+v", b)
	}

	calls := list(insert(5, true, 0, 3, 6), contains(5, false, 1, 2, 9), insert(2, true, 3, 20, 21))
	line, _, _ := linear.Search(calls)
	other, _, _ := linear.Search(calls)
	numbers, _ := linear.Keys(calls)
	others, _ := linear.Keys(calls)
	fixture.Full(line, 99)
	fixture.Full(numbers, 99)
	fixture.Full(calls, api.Call{})
	if !slices.Equal(other, []int{1, 0, 2}) || !slices.Equal(others, []int64{2, 5}) {
		t.Errorf("Search = %v, Keys = %v", other, others)
	}
	calls = list(insert(5, true, 0, 3, 6), contains(5, false, 1, 2, 9), insert(2, true, 3, 20, 21))
	lines(t, calls, 1, 0, 2)
	keys(t, calls, 2, 5)
}

// asked is all that is answered of some calls and a run.
type asked struct {
	calls    []api.Call
	line     []int
	numbers  []int64
	at, step int
	found    bool
}

func (a asked) same(b asked) bool {
	return slices.Equal(a.calls, b.calls) && slices.Equal(a.line, b.line) && slices.Equal(a.numbers, b.numbers) &&
		a.at == b.at && a.step == b.step && a.found == b.found
}

// R4: the same answers, however often they are asked for, and by how many at once.
func TestTheSameAgain(t *testing.T) {
	t.Parallel()
	d := fixture.NewDice()
	for n := range 20 {
		s := fixture.Thrown(&d, n)
		r := run(t, s)
		spoilt := copied(r)
		for i := range spoilt.Rows {
			if spoilt.Rows[i].Puts {
				spoilt.Rows[i].Put.Num ^= 1
			}
		}
		calls := thrownCalls(&d, 8)
		ask := func() asked {
			var a asked
			a.calls, _ = linear.Calls(s, r)
			a.line, a.found, _ = linear.Search(calls)
			a.numbers, _ = linear.Keys(calls)
			a.at, _ = linear.ByPoints(calls)
			a.step, _ = linear.Lists(s, spoilt)
			return a
		}
		want := ask()
		var all sync.WaitGroup
		for range 4 {
			all.Go(func() {
				for range 10 {
					if got := ask(); !got.same(want) {
						t.Errorf("%+v, then %+v", want, got)
					}
				}
			})
		}
		all.Wait()
	}
}
