package linear_test

import (
	"math"
	"slices"
	"testing"

	"braid/api"
	"braid/fixture"
	"braid/linear"
	"braid/machine"
)

// thrownCalls gives so many calls that may be, close together, with the answers of a set by their Points; then some of
// them answer otherwise, have not answered, or have not committed.
func thrownCalls(d *fixture.Dice, n int) []api.Call {
	calls := make([]api.Call, n)
	free := places(3*n + 2)[2:]
	width := fixture.Pick(d, 2, 4, 10, 3*n+2)
	for i := range calls {
		j := fixture.Call(d)
		k := d.Below(len(free))
		c := api.Call{Kind: j.Kind, Key: j.Key, Other: j.Other, Point: free[k]}
		free = slices.Delete(free, k, k+1)
		c.From, c.To = max(0, c.Point-1-d.Below(width)), c.Point+1+d.Below(width)
		if d.Below(3) > 0 {
			c.Key, c.Other = int64(d.Below(3)), int64(d.Below(3))
		}
		calls[i] = c
	}
	var set plainSet
	for _, place := range byPoints(calls) {
		c := &calls[place]
		c.Yes, c.Result = set.answer(*c)
		if d.Below(12) == 0 {
			c.Yes = !c.Yes
		}
		if d.Below(12) == 0 {
			c.Result += int64(d.Below(3) - 1)
		}
		switch d.Below(8) {
		case 0:
			c.To = -1
		case 1:
			c.Point, c.To = -1, -1
		}
	}
	return calls
}

// sameCalls lays ByPoints, Keys and Search beside the plain ones, and tells whether there is a line.
func sameCalls(t *testing.T, calls []api.Call) bool {
	t.Helper()
	if !plainMay(calls) {
		why := api.ErrCall
		if len(calls) > api.MaxCalls {
			why = api.ErrCalls
		}
		refused(t, calls, why)
		return false
	}
	at, numbers := through(calls, byPoints(calls))
	points(t, calls, at)
	keys(t, calls, numbers...)
	if len(calls) > api.MaxCalls {
		return false
	}
	line, found := plainSearch(calls)
	if !found {
		noLine(t, calls)
		return false
	}
	lines(t, calls, line...)
	return true
}

func TestThrownCalls(t *testing.T) {
	t.Parallel()
	d := fixture.NewDice()
	found, none, turned, short := 0, 0, 0, 0
	for range 12000 {
		calls := thrownCalls(&d, d.Below(6))
		if !sameCalls(t, calls) {
			none++
			continue
		}
		found++
		line, _, _ := linear.Search(calls)
		if !slices.IsSorted(line) {
			turned++
		}
		if len(line) < len(calls) {
			short++
		}
	}
	if found < 4000 || none < 2000 || turned < 500 || short < 500 {
		t.Errorf("%d lines, %d lists without one, %d out of order, %d without a call", found, none, turned, short)
	}
	for range 60 {
		sameCalls(t, thrownCalls(&d, 6+d.Below(3)))
	}
	for range 60 {
		sameCalls(t, thrownCalls(&d, 9+d.Below(200)))
	}
}

// Calls that may be in which a field is anything.
func TestThrownLists(t *testing.T) {
	t.Parallel()
	d := fixture.NewDice()
	refusals := 0
	for range 8000 {
		calls := thrownCalls(&d, 1+d.Below(4))
		i := d.Below(len(calls))
		c, other := &calls[i], calls[d.Below(len(calls))]
		n := fixture.Pick(&d, math.MinInt, -2, -1, 0, 1, c.From, c.From+1, c.Point-1, c.Point, c.Point+1, c.To, other.Point, math.MaxInt)
		switch d.Below(5) {
		case 0:
			c.Kind = fixture.Pick(&d, n, 0, 1, 6, 7)
		case 1:
			c.From = n
		case 2:
			c.Point = n
		case 3:
			c.To = n
		case 4:
			c.Point, c.To = -1, n
		}
		if !plainMay(calls) {
			refusals++
		}
		sameCalls(t, calls)
	}
	if refusals < 2500 {
		t.Errorf("%d were refused", refusals)
	}
}

// 17.7: where all answers are a set's by the Points, the calls with a Point, in that order, are a line, and Search finds
// one that does not come behind it in a dictionary.
func TestPointsAreALine(t *testing.T) {
	t.Parallel()
	d := fixture.NewDice()
	fine := 0
	for range 6000 {
		calls := thrownCalls(&d, d.Below(9))
		if at, e := linear.ByPoints(calls); at != -1 || e != api.OK {
			continue
		}
		fine++
		ordered := byPoints(calls)
		if !isLine(calls, ordered) {
			t.Fatalf("%v is no line of %+v", ordered, calls)
		}
		line, found, e := linear.Search(calls)
		if !found || e != api.OK || !isLine(calls, line) || slices.Compare(line, ordered) > 0 {
			t.Fatalf("Search(%+v) = %v, %v, %d, and %v is a line", calls, line, found, e, ordered)
		}
	}
	if fine < 2000 {
		t.Errorf("%d were fine", fine)
	}
}

// 17.8: the same calls in another order.
func TestOtherOrders(t *testing.T) {
	t.Parallel()
	d := fixture.NewDice()
	moved := 0
	for range 5000 {
		calls := thrownCalls(&d, 1+d.Below(9))
		other, from := slices.Clone(calls), places(len(calls))
		for i := range other {
			k := d.Below(i + 1)
			other[i], other[k] = other[k], other[i]
			from[i], from[k] = from[k], from[i]
		}
		at, e := linear.ByPoints(calls)
		there, f := linear.ByPoints(other)
		if e != api.OK || f != api.OK || (at == -1) != (there == -1) || at != -1 && from[there] != at {
			t.Fatalf("ByPoints(%+v) = %d, %d; in the order %v %d, %d", calls, at, e, from, there, f)
		}
		if at != there {
			moved++
		}
		numbers, _ := linear.Keys(calls)
		keys(t, other, numbers...)
		_, found, e := linear.Search(calls)
		if _, also, f := linear.Search(other); found != also || e != f {
			t.Fatalf("Search(%+v): %v, %d; in the order %v %v, %d", calls, found, e, from, also, f)
		}
	}
	if moved < 800 {
		t.Errorf("ByPoints told another place %d times", moved)
	}
}

// thrown gives the n-th of many scripts; every second one has calls of the set alone.
func thrown(d *fixture.Dice, n int) machine.Script {
	s := fixture.Thrown(d, n)
	for p := range s.Threads {
		for j := range s.Threads[p] {
			if n%2 == 0 && s.Threads[p][j].Kind == api.JobProgram {
				s.Threads[p][j] = fixture.Call(d)
			}
		}
	}
	return s
}

// 17.6: W5 over the runs of thrown scripts.
func TestRuns(t *testing.T) {
	t.Parallel()
	d := fixture.NewDice()
	answered, silent, under, searched, swaps := 0, 0, 0, 0, 0
	for n := range 1500 {
		s := thrown(&d, n)
		r := run(t, s)
		calls := callsOf(t, s, r)
		if want, _ := plainCalls(s, r); !slices.Equal(calls, want) || !plainMay(calls) {
			t.Fatalf("Calls = %+v, want %+v", calls, want)
		}
		points(t, calls, -1)
		lists(t, s, r, -1)
		for i, c := range calls {
			switch {
			case c.To != -1:
				answered++
			case c.Point != -1:
				silent++
			default:
				under++
			}
			if i > 0 && c.Point != -1 && c.Point < calls[i-1].Point {
				swaps++
			}
		}
		if len(calls) > api.MaxCalls {
			continue
		}
		if line, found, e := linear.Search(calls); !found || e != api.OK || !isLine(calls, line) {
			t.Fatalf("Search(%+v) = %v, %v, %d", calls, line, found, e)
		}
		if len(calls) > 1 {
			searched++
		}
	}
	if answered < 2000 || silent < 40 || under < 500 || searched < 400 || swaps < 300 {
		t.Errorf("%d calls answered, %d committed alone, %d under way, %d searches, %d out of order", answered, silent, under, searched, swaps)
	}
}

// The keys of a whole run are those of its last list.
func TestKeysOfRuns(t *testing.T) {
	t.Parallel()
	d := fixture.NewDice()
	some := 0
	for n := range 300 {
		s := thrown(&d, n)
		r := run(t, s)
		var want []int64
		for at := r.Finals[len(s.Objects)].Next; at != -1; at = r.Finals[at].Next {
			want = append(want, r.Finals[at].Num)
		}
		keys(t, callsOf(t, s, r), want...)
		if len(want) > 1 {
			some++
		}
	}
	if some < 30 {
		t.Errorf("%d runs left more than one key", some)
	}
}

// sameRun lays Calls and Lists beside the plain ones, and tells the step that Lists tells.
func sameRun(t *testing.T, s machine.Script, r machine.Result) int {
	t.Helper()
	if why := plainFits(s, r); why != api.OK {
		unfit(t, s, r, why)
		return -2
	}
	want, _ := plainCalls(s, r)
	told(t, s, r, want...)
	step := plainLists(s, r)
	lists(t, s, r, step)
	return step
}

// rowThatMatters gives the place of a row: most often of one that puts into the list, else of one that commits, returns or
// puts, else of any.
func rowThatMatters(d *fixture.Dice, rows []api.Row, head int) int {
	var list, others []int
	for i, row := range rows {
		switch {
		case row.Puts && row.Object >= head:
			list = append(list, i)
		case row.Puts || row.End == api.EndCommit || row.Kind == api.RowReturn:
			others = append(others, i)
		}
	}
	switch {
	case len(list) > 0 && d.Below(4) > 0:
		return fixture.Pick(d, list...)
	case len(others) > 0 && d.Below(4) > 0:
		return fixture.Pick(d, others...)
	}
	return d.Below(len(rows))
}

// spoils changes something of a run; most often it still fits.
func spoils(d *fixture.Dice, s *machine.Script, r *machine.Result) {
	i, p := rowThatMatters(d, r.Rows, len(s.Objects)), d.Below(len(s.Threads))
	row := &r.Rows[i]
	switch d.Below(12) {
	case 0, 1:
		row.Put.Num += int64(d.Below(5) - 2)
	case 2, 3:
		row.Put.Next = d.Below(len(r.Finals)+2) - 2
	case 4:
		row.Put.Dead = !row.Put.Dead
	case 5:
		row.Object = d.Below(len(r.Finals) + 1)
	case 6:
		row.Puts = false
	case 7:
		row.Phase = fixture.Pick(d, api.PhaseNone, api.PhaseRead, api.PhaseFinal)
	case 8:
		row.Job, row.Thread = row.Job+d.Below(2), row.Thread+d.Below(2)
	case 9:
		r.Rows = r.Rows[:d.Below(len(r.Rows))+1]
	case 10:
		r.Answers[p] = r.Answers[p][:d.Below(len(r.Answers[p])+1)]
	case 11:
		if len(s.Threads[p]) > 0 {
			s.Threads[p][d.Below(len(s.Threads[p]))] = fixture.Call(d)
		}
	}
}

// Runs in which something is spoilt, beside the plain ones.
func TestSpoiltRuns(t *testing.T) {
	t.Parallel()
	d := fixture.NewDice()
	fine, spoilt, refusals := 0, 0, 0
	for n := range 500 {
		s := thrown(&d, n)
		s.Picks = s.Picks[:min(len(s.Picks), 200)]
		r := run(t, s)
		for range 6 {
			s, r := fixture.Copied(s), copied(r)
			for range 1 + d.Below(2) {
				spoils(&d, &s, &r)
			}
			switch step := sameRun(t, s, r); {
			case step >= 0:
				spoilt++
			case step == -1:
				fine++
			default:
				refusals++
			}
		}
	}
	if fine < 800 || spoilt < 250 || refusals < 200 {
		t.Errorf("%d fine, %d spoilt, %d refused", fine, spoilt, refusals)
	}
}

// Thrown rows beside thrown scripts, which know nothing of each other.
func TestThrownRows(t *testing.T) {
	t.Parallel()
	d := fixture.NewDice()
	calls, fine, spoilt, refusals := 0, 0, 0, 0
	for range 4000 {
		rows := fixture.Rows(&d, 1+d.Below(fixture.Pick(&d, 20, 70)))
		for i := range rows {
			if d.Below(2) == 0 { // so that lists are left alone now and then
				rows[i].Puts = false
			}
		}
		jobs := make([]machine.Job, fixture.Pick(&d, 2, api.MaxJobs, api.MaxJobs))
		var threads [][]machine.Job
		for range fixture.Pick(&d, 4, api.MaxThreads, api.MaxThreads) {
			for j := range jobs {
				if jobs[j] = fixture.Call(&d); d.Below(3) > 0 {
					jobs[j] = job(fixture.Pick(&d, api.JobContains, api.JobSize, api.JobLeast, api.JobProgram))
				}
			}
			threads = append(threads, slices.Clone(jobs))
		}
		s, r := played(scripted(make([]int64, d.Below(3)), threads...), rows)
		for p := range r.Answers {
			for j := range r.Answers[p] {
				r.Answers[p][j] = api.Answer{Outcome: d.Below(4), Result: fixture.Edge(&d), Yes: d.Below(2) == 0}
			}
		}
		switch step := sameRun(t, s, r); {
		case step >= 0:
			spoilt++
		case step == -1:
			fine++
		default:
			refusals++
			continue
		}
		calls += len(callsOf(t, s, r))
	}
	if calls < 5000 || fine < 500 || spoilt < 200 || refusals < 300 {
		t.Errorf("%d calls, %d fine, %d spoilt, %d refused", calls, fine, spoilt, refusals)
	}
}
