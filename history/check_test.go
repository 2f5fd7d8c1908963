package history_test

import (
	"math"
	"slices"
	"testing"

	"braid/api"
)

// Chapter 15's examples 1, 4 and 6.
func TestCheckOfTheChapter(t *testing.T) {
	checks(t, nil, -1)
	checks(t, []api.Row{}, -1)
	checks(t, example(), -1)
	checks(t, story(), -1)
	for _, c := range []struct {
		at    int
		spoil func(rows []api.Row)
	}{
		{2, func(rows []api.Row) { rows[2].Step = 7 }},
		{4, func(rows []api.Row) { rows[4].Done = false }},
		{4, func(rows []api.Row) { rows[4].End = api.EndNone }},
		{5, func(rows []api.Row) { rows[5].Try = 2 }},
		{2, func(rows []api.Row) { rows[2].Entry = 1 }},
		{0, func(rows []api.Row) { rows[0].Seen = 1 }},
		{0, func(rows []api.Row) { rows[0].Attempt = 2 }},
		{1, func(rows []api.Row) { rows[1].Try = 1 }},
	} {
		rows := example()
		c.spoil(rows)
		checks(t, rows, c.at)
	}
}

// change is a row that is changed, behind some that may stand, so that it breaks one of 15.1's conditions, 0: none.
type change struct {
	ahead  []api.Row
	row    api.Row
	spoil  func(r *api.Row)
	breaks int
}

// looked looks that a row breaks what it should, and nothing else; that it is found wherever it stands; and that of two
// faults the first one is told.
func (c change) looked(t *testing.T) {
	t.Helper()
	rows := laid(append(slices.Clone(c.ahead), c.row)...)
	i := len(rows) - 1
	checks(t, rows, -1)
	c.spoil(&rows[i])
	want := -1
	if c.breaks > 0 {
		want = i
	}
	checks(t, rows, want)
	var broken []int
	if c.breaks > 0 {
		broken = []int{c.breaks}
	}
	if got := plain(rows).broken(i); !slices.Equal(got, broken) {
		t.Fatalf("%+v breaks %v, want %v", rows[i], got, broken)
	}
	if want < 0 {
		return
	}
	wrong := stutter()
	wrong.Step = -1
	checks(t, append(slices.Clone(rows), wrong), i)
	if i > 0 {
		rows[0].Step = 1
		checks(t, rows, 0)
	}
}

// ways are several changes of one row.
func ways(ahead []api.Row, row api.Row, breaks int, spoils ...func(r *api.Row)) []change {
	var all []change
	for _, s := range spoils {
		all = append(all, change{ahead, row, s, breaks})
	}
	return all
}

func allLooked(t *testing.T, lists ...[]change) {
	t.Helper()
	for i, c := range slices.Concat(lists...) {
		t.Log(i)
		c.looked(t)
	}
}

// numbers sets one field to several numbers, each in a change of its own.
func numbers(set func(r *api.Row, n int), list ...int) []func(*api.Row) {
	var all []func(*api.Row)
	for _, n := range list {
		all = append(all, func(r *api.Row) { set(r, n) })
	}
	return all
}

func step(r *api.Row, n int)    { r.Step = n }
func thread(r *api.Row, n int)  { r.Thread = n }
func job(r *api.Row, n int)     { r.Job = n }
func try(r *api.Row, n int)     { r.Try = n }
func attempt(r *api.Row, n int) { r.Attempt = n }
func kind(r *api.Row, n int)    { r.Kind = n }
func phase(r *api.Row, n int)   { r.Phase = n }
func object(r *api.Row, n int)  { r.Object = n }
func entry(r *api.Row, n int)   { r.Entry = n }
func seen(r *api.Row, n int)    { r.Seen = int64(n) }
func end(r *api.Row, n int)     { r.End = n }

// lives is a thread with an attempt under way, the second job's first one, among others.
func lives() []api.Row {
	return []api.Row{begin(1), begin(4), commit(1), back(1), begin(1)}
}

// fails is a thread whose attempt has failed, again and again, among others.
func fails() []api.Row {
	return append(lives(), quit(1, api.EndStale), again(1), stutter(), killed(1, api.RowMine))
}

// 1: the step and the kind.
func TestSteps(t *testing.T) {
	odd := []int{-1, api.RowKinds, api.RowKinds + 1, math.MinInt, math.MaxInt, 1 << 32}
	allLooked(t,
		ways(lives(), of(1, api.RowPoint), 1, numbers(step, 4, 6, -1, 0, -5, math.MinInt, math.MaxInt, 1<<32+5)...),
		ways(nil, begin(0), 1, numbers(step, 1, -1)...),
		ways(nil, stutter(), 1, numbers(step, 1, -1)...),
		ways(fails(), again(1), 1, numbers(step, 8, 10)...),
		ways([]api.Row{begin(0), commit(0)}, back(0), 1, numbers(step, 1, 3)...),
		ways(lives(), of(1, api.RowLocal), 1, numbers(kind, odd...)...),
	)
}

// 2: whose a stutter is, and which threads there are.
func TestThreads(t *testing.T) {
	out := []int{-1, -2, api.MaxThreads, api.MaxThreads + 1, math.MinInt, math.MaxInt, 1 << 32}
	allLooked(t,
		ways(lives(), stutter(), 2, numbers(thread, 0, 1, -2, 6, math.MaxInt)...),
		ways(lives(), stutter(), 2, numbers(job, 0, 1, -2, math.MinInt)...),
		ways(lives(), stutter(), 2, numbers(try, 1, -1, math.MaxInt)...),
		ways(lives(), stutter(), 2, numbers(attempt, 0, 1, 3, -2)...),
		ways(nil, begin(0), 2, numbers(thread, out...)...),
		ways(nil, begin(0), 0, numbers(thread, 0, 1, 2, 3, 4, 5)...),
	)
	for p := range api.MaxThreads {
		checks(t, laid(begin(p), of(p, api.RowLocal), quit(p, api.EndStale), again(p), commit(p), back(p), begin(p)), -1)
	}
	for _, p := range out { // rows of every kind of one that is not there, as if it were
		checks(t, laid(begin(0), begin(p)), 1)
		checks(t, laid(stutter(), of(p, api.RowLocal)), 1)
		checks(t, laid(stutter(), again(p)), 1)
		checks(t, laid(stutter(), back(p)), 1)
	}
}

// 3: where a transaction may begin.
func TestBegin(t *testing.T) {
	second := []api.Row{begin(1), begin(4), commit(1), back(1)}
	third := append(fails(), again(1), commit(1), back(1), begin(2))
	allLooked(t,
		ways(nil, begin(0), 3, numbers(job, 1, -1, math.MinInt, math.MaxInt)...),
		ways(second, begin(1), 3, numbers(job, 0, 2, -1)...),
		ways(second, begin(3), 3, numbers(job, 1, 2, -1)...),
		ways(third, begin(1), 3, numbers(job, 0, 1, 3)...),
		ways(nil, begin(0), 3, numbers(try, 0, 2, -1)...),
		ways(third, begin(1), 3, numbers(try, 0, 2, 3, 4)...),
		ways(nil, begin(0), 3, numbers(attempt, 0, 2, -1)...),
		ways(second, begin(1), 3, numbers(attempt, 1, 2, 4, 0)...),
		ways(third, begin(1), 3, numbers(attempt, 4, 5, 6, 8)...),
		ways(nil, begin(0), 3, numbers(seen, 1, -1, math.MinInt, math.MaxInt)...),
		ways(second, begin(1), 3, numbers(seen, 0, 1, 3)...),
		ways(third, begin(1), 3, numbers(seen, 3, 5, 6)...),
		ways(third, begin(1), 0, numbers(job, 2)...),
		ways(third, begin(1), 0, numbers(attempt, 7)...),
		ways(third, begin(1), 0, numbers(seen, 4)...),
	)
	for _, ahead := range [][]api.Row{
		{begin(1)}, lives(), fails(),
		{begin(1), of(1, api.RowPoint)},
		{begin(1), commit(1)}, {begin(1), quit(1, api.EndUser)}, {begin(1), quit(1, api.EndBad)},
	} { // a thread that is not idle
		checks(t, laid(append(ahead, begin(1))...), len(ahead))
		if got := plain(laid(append(ahead, begin(1))...)).broken(len(ahead)); !slices.Equal(got, []int{3}) {
			t.Fatalf("breaks %v", got)
		}
	}
}

// 4: where an attempt may follow another.
func TestAgain(t *testing.T) {
	allLooked(t,
		ways(fails(), again(1), 4, numbers(job, 0, 2, -1)...),
		ways(fails(), again(1), 4, numbers(try, 1, 2, 4, 0, -1)...),
		ways(fails(), again(1), 4, numbers(attempt, 3, 4, 6, 0, -1)...),
		ways(fails(), again(1), 0, numbers(attempt, 5)...),
		ways(fails(), again(1), 0, numbers(seen, 0, 1, 77, -1, math.MinInt)...), // its Seen is not looked at
		ways(fails(), again(1), 4, numbers(thread, 4, 0, 5)...),                 // live, idle
	)
	for _, ahead := range [][]api.Row{
		{begin(1)}, lives(), {begin(1), of(1, api.RowPoint)}, {begin(1), quit(1, api.EndStale), again(1)},
		{begin(1), commit(1)}, {begin(1), quit(1, api.EndUser)}, {begin(1), quit(1, api.EndBad)},
		{begin(1), commit(1), back(1)}, {begin(0)},
	} { // a thread that is not failed
		rows := laid(append(ahead, again(1))...)
		checks(t, rows, len(ahead))
		if got := plain(rows).broken(len(ahead)); !slices.Equal(got, []int{4}) {
			t.Fatalf("breaks %v", got)
		}
	}
}

// 5: where a job may answer.
func TestReturn(t *testing.T) {
	ahead := append(fails(), again(1), commit(1), stutter())
	allLooked(t,
		ways(ahead, back(1), 5, numbers(job, 0, 2, -1)...),
		ways(ahead, back(1), 5, numbers(try, 1, 2, 4, 0)...),
		ways(ahead, back(1), 5, numbers(attempt, 4, 6, 0, -1)...),
		ways(ahead, back(1), 5, numbers(thread, 4, 0)...),
		ways(append(lives(), quit(1, api.EndUser)), back(1), 5, numbers(attempt, 2)...),
		ways(append(lives(), quit(1, api.EndBad)), back(1), 5, numbers(attempt, 4)...),
	)
	for _, ahead := range [][]api.Row{
		{begin(1)}, lives(), fails(), {begin(1), quit(1, api.EndStale)}, {begin(1), quit(1, api.EndKilled)},
		{begin(1), commit(1), back(1)}, {begin(0)}, {begin(0), commit(0)},
	} { // a thread that is not done
		rows := laid(append(ahead, back(1))...)
		checks(t, rows, len(ahead))
		if got := plain(rows).broken(len(ahead)); !slices.Equal(got, []int{5}) {
			t.Fatalf("breaks %v", got)
		}
	}
}

// 6: where a row of an attempt may stand, of each kind.
func TestRowsOfAnAttempt(t *testing.T) {
	for k := api.RowLocal; k < api.RowReturn; k++ {
		allLooked(t,
			ways(lives(), of(1, k), 6, numbers(job, 0, 2, -1)...),
			ways(lives(), of(1, k), 6, numbers(try, 0, 2, -1)...),
			ways(lives(), of(1, k), 6, numbers(attempt, 1, 2, 4, 0)...),
			ways(lives(), of(1, k), 6, numbers(thread, 0, 4, 5)...), // idle without a row, another's attempt
			ways(append(fails(), again(1)), of(1, k), 6, numbers(try, 1, 2, 4)...),
			ways(append(fails(), again(1)), of(1, k), 6, numbers(attempt, 3, 4, 6)...),
		)
		for _, ahead := range [][]api.Row{
			nil, {begin(0)}, fails(), {begin(1), commit(1)}, {begin(1), quit(1, api.EndUser)}, {begin(1), quit(1, api.EndBad)},
			{begin(1), quit(1, api.EndStale)}, {begin(1), commit(1), back(1)}, {begin(1), of(1, k), quit(1, api.EndKilled)},
		} { // a thread that is not live
			rows := laid(append(ahead, of(1, k))...)
			checks(t, rows, len(ahead))
			if got := plain(rows).broken(len(ahead)); !slices.Equal(got, []int{6}) {
				t.Fatalf("kind %d: breaks %v", k, got)
			}
		}
	}
}

// 7: which ends there are, and in which rows.
func TestEnds(t *testing.T) {
	odd := []int{-1, api.EndKilled + 1, math.MinInt, math.MaxInt, 1 << 32}
	ends := []int{api.EndCommit, api.EndUser, api.EndBad, api.EndStale, api.EndKilled}
	allLooked(t,
		ways(lives(), stutter(), 7, numbers(end, append(ends, odd...)...)...),
		ways(lives(), begin(0), 7, numbers(end, append(ends, odd...)...)...),
		ways(fails(), again(1), 7, numbers(end, append(ends, odd...)...)...),
		ways(append(lives(), commit(1)), back(1), 7, numbers(end, append(ends, odd...)...)...),
	)
	for k := api.RowLocal; k < api.RowReturn; k++ {
		for _, swapped := range []bool{false, true} {
			row := with(of(1, k), func(r *api.Row) { r.Done = swapped })
			if k == api.RowCommit && swapped {
				row.End = api.EndCommit
			}
			allLooked(t, ways(lives(), row, 7, numbers(end, odd...)...))
			for e := api.EndNone; e <= api.EndKilled; e++ {
				breaks := 0
				if committed := k == api.RowCommit && swapped; committed != (e == api.EndCommit) {
					breaks = 7
				}
				if (e == api.EndUser || e == api.EndBad) && k != api.RowQuit {
					breaks = 7
				}
				allLooked(t, ways(lives(), row, breaks, numbers(end, e)...))
			}
		}
	}
}

// 7, and what it makes of a thread: behind each end just one kind of row may come, and behind none all others.
func TestBehindAnEnd(t *testing.T) {
	for e := api.EndNone; e <= api.EndKilled; e++ {
		row := quit(0, e)
		if e == api.EndCommit {
			row = commit(0)
		}
		want := map[int]bool{api.RowStutter: true}
		for k := api.RowBegin; k < api.RowKinds; k++ {
			want[k] = e == api.EndNone && k >= api.RowLocal && k <= api.RowQuit
		}
		switch e {
		case api.EndCommit, api.EndUser, api.EndBad:
			want[api.RowReturn] = true
		case api.EndStale, api.EndKilled:
			want[api.RowAgain] = true
		}
		for k, may := range want {
			next := of(0, k)
			if k == api.RowStutter {
				next = stutter()
			}
			place := 2
			if may {
				place = -1
			}
			checks(t, laid(begin(0), row, next), place)
		}
	}
}

// 8: Told and Puts in rows that are none of an attempt's, whatever else they have.
func TestToldElsewhere(t *testing.T) {
	told := func(r *api.Row) { r.Told, r.Object, r.Phase = true, 0, api.PhaseRead }
	put := func(r *api.Row) { r.Puts, r.Object, r.Phase = true, 3, api.PhaseWrite }
	both := func(r *api.Row) { told(r); put(r) }
	allLooked(t,
		ways(lives(), stutter(), 8, told, put, both),
		ways(lives(), begin(0), 8, told, put, both),
		ways(fails(), again(1), 8, told, put, both),
		ways(append(lives(), commit(1)), back(1), 8, told, put, both),
	)
}

// 8: the object, the phase and the entry of what is told and put, in rows of each kind.
func TestTold(t *testing.T) {
	two := append(lives(), reads(1, 7, 0, 1), stutter(), reads(1, 7, 1, 1)) // the count is 2
	for k := api.RowLocal; k < api.RowReturn; k++ {
		put := with(puts(1, 0, 4), func(r *api.Row) { r.Kind = k })
		allLooked(t,
			ways(two, put, 8, numbers(object, -1, -2, math.MinInt)...),
			ways(two, put, 0, numbers(object, 0, 1, 99, math.MaxInt)...),
			ways(two, put, 0, numbers(phase, -1, 0, 1, 2, 3, 4, 5, 99)...),
		)
		if k == api.RowRelease {
			continue
		}
		allLooked(t, ways(two, put, 0, numbers(entry, -9, -2, -1, 0, 2, 3, 99)...))
		read := tells(1, k, api.PhaseRead, 0, 0, 4)
		write := tells(1, k, api.PhaseWrite, 0, 0, 4)
		allLooked(t,
			ways(two, read, 8, numbers(object, -1, -2, math.MinInt)...),
			ways(two, write, 8, numbers(object, -1, -2, math.MinInt)...),
			ways(two, read, 0, numbers(object, 0, 1, 99, math.MaxInt)...),
			ways(two, read, 0, numbers(phase, api.PhaseRead, api.PhaseWrite)...),
			ways(two, read, 8, numbers(phase, api.PhaseNone, api.PhaseFinal, api.PhaseQuit, -1, 5, math.MinInt, math.MaxInt)...),
			ways(two, read, 0, numbers(entry, -1, 0, 1, 2)...),
			ways(two, read, 8, numbers(entry, -2, 3, 4, math.MinInt, math.MaxInt)...),
			ways(two, write, 0, numbers(entry, -1, 0, 1)...),
			ways(two, write, 8, numbers(entry, -2, 2, 3, math.MinInt, math.MaxInt)...),
			ways(lives(), read, 0, numbers(entry, -1, 0)...),
			ways(lives(), read, 8, numbers(entry, -2, 1)...),
			ways(lives(), tells(1, k, api.PhaseWrite, 0, -1, 4), 8, numbers(entry, -2, 0, 1)...),
		)
	}
}

// 8: what makes the count one more, and what does not.
func TestCount(t *testing.T) {
	for i, c := range []struct {
		ahead []api.Row
		count int
	}{
		{nil, 0},
		{[]api.Row{reads(1, 3, 0, 1)}, 1},
		{[]api.Row{reads(1, 3, 0, 1), reads(1, 3, 1, 1), reads(1, 3, 2, 1)}, 3},
		{[]api.Row{reads(1, 3, 0, 1), reads(1, 3, 0, 1), writes(1, 3, 0, 1, 2)}, 1}, // told again, upgraded
		{[]api.Row{reads(1, 3, -1, 1), writes(1, 3, -1, 1, 2), puts(1, 3, 1)}, 0},   // without an entry
		{[]api.Row{reads(1, 3, 0, 1), release(1, 0), release(1, 0)}, 1},             // ordinals are not used again
		{[]api.Row{of(1, api.RowPoint), with(of(1, api.RowStatus), func(r *api.Row) { r.Entry = 0 }), with(puts(1, 3, 1), func(r *api.Row) { r.Entry = 0 })}, 0},
		{[]api.Row{begin(0), reads(0, 3, 0, 1), reads(0, 3, 1, 1)}, 0}, // another thread's
		{[]api.Row{reads(1, 3, 0, 1), quit(1, api.EndStale), again(1)}, 0},
		{[]api.Row{reads(1, 3, 0, 1), commit(1), back(1), begin(1)}, 0},
		{[]api.Row{reads(1, 3, 0, 1), quit(1, api.EndKilled), again(1), reads(1, 3, 0, 1), reads(1, 3, 1, 1)}, 2},
	} {
		t.Log(i)
		ahead := append(lives(), c.ahead...)
		for e := -1; e <= c.count+1; e++ {
			want := -1
			if e > c.count {
				want = len(ahead)
			}
			checks(t, laid(append(ahead, reads(1, 9, e, 1))...), want)
			if e == c.count {
				want = len(ahead)
			}
			checks(t, laid(append(ahead, writes(1, 9, e, 1, 1))...), want)
			checks(t, laid(append(ahead, release(1, e))...), want)
		}
	}
}

// 9: what a release may release; it tells nothing.
func TestRelease(t *testing.T) {
	two := append(lives(), reads(1, 7, 0, 1), begin(2), reads(2, 7, 0, 1), reads(1, 7, 1, 1), reads(2, 7, 1, 1), reads(2, 7, 2, 1))
	told := func(r *api.Row) { r.Told, r.Phase, r.Entry = true, api.PhaseRead, 0 }
	wrote := func(r *api.Row) { r.Told, r.Phase, r.Entry = true, api.PhaseWrite, -1 }
	allLooked(t,
		ways(two, release(1, 0), 0, numbers(entry, -1, 0, 1)...),
		ways(two, release(1, 0), 9, numbers(entry, -2, 2, 3, math.MinInt, math.MaxInt)...),
		ways(lives(), release(1, -1), 9, numbers(entry, 0, 1, -2)...),
		ways(two, release(1, 0), 9, told, wrote),
		ways(two, release(1, 0), 0, numbers(object, -1, -9, 0, 99)...),
		ways(two, release(1, 0), 0, numbers(phase, -1, 0, 1, 2, 3, 4, 5)...),
	)
}

// Nothing else of a row is looked at.
func TestWhatIsNotLookedAt(t *testing.T) {
	for _, n := range []int{0, 1, -1, 77, math.MinInt, math.MaxInt} {
		for _, is := range []bool{false, true} {
			rows := story()
			for i := range rows {
				r := &rows[i]
				r.Enemy, r.Cell, r.Wrote, r.Wait = n, n, int64(n), n
				r.Abort, r.Timeout = is, is
				r.Value, r.Put = api.Value{Num: int64(n), Next: n, Dead: is}, api.Value{Num: int64(n), Next: n, Dead: is}
				if r.Kind != api.RowCommit {
					r.Done = is
				}
				if r.Kind != api.RowBegin {
					r.Seen = int64(n)
				}
				if !r.Told && !r.Puts {
					r.Object = n
				}
				if !r.Told {
					r.Phase = n
				}
				if !r.Told && r.Kind != api.RowRelease {
					r.Entry = n
				}
			}
			checks(t, rows, -1)
		}
	}
}

// Of two faults the first, whichever it is.
func TestTheFirstFault(t *testing.T) {
	for i := range story() {
		for k := range story() {
			rows := story()
			rows[i].Step++
			rows[k].End = -1
			checks(t, rows, min(i, k))
		}
	}
}

// fields sets a field of a row to a number; a bool to whether it is 0.
func fields() []func(r *api.Row, n int) {
	return []func(r *api.Row, n int){
		step, thread, job, try, attempt, kind, phase, object, entry, seen, end,
		func(r *api.Row, n int) { r.Done = n != 0 },
		func(r *api.Row, n int) { r.Told = n != 0 },
		func(r *api.Row, n int) { r.Puts = n != 0 },
		func(r *api.Row, n int) { r.Enemy, r.Cell, r.Wait, r.Wrote = n, n, n, int64(n) },
		func(r *api.Row, n int) { r.Abort, r.Timeout = n != 0, n == 0 },
	}
}

// Each field of each row, set to what stands there elsewhere and to what stands nowhere, beside the plain check.
func TestEveryField(t *testing.T) {
	t.Parallel()
	list := []int{math.MinInt, -2, -1, 17, 18, 46, 47, math.MaxInt}
	for n := range 9 {
		list = append(list, n)
	}
	seen := map[int]int{}
	for i := range story() {
		for _, set := range fields() {
			for _, n := range list {
				rows := story()
				set(&rows[i], n)
				want := plain(rows).check()
				checks(t, rows, want)
				seen[min(want, 0)]++
			}
		}
	}
	if seen[-1] < 1000 || seen[0] < 1000 {
		t.Errorf("%v", seen)
	}
}
