package history_test

import (
	"math"
	"testing"

	"braid/api"
	"braid/fixture"
	"braid/history"
)

// Chapter 15's examples 2, 3, 5 and 6.
func TestValuesOfTheChapter(t *testing.T) {
	first := fixture.Numbers(1, 2, 3, 7)
	for step := -1; step <= 3; step++ {
		sameValues(t, at(t, first, example(), step), first)
	}
	for step := 4; step <= 5; step++ {
		sameValues(t, at(t, first, example(), step), fixture.Numbers(1, 2, 3, 9))
	}
	sameValues(t, at(t, first[:3], example(), 5), first[:3])
	for step, want := range []int64{-1, 0, 0, 0, 0, -1, -1} {
		if got := oldest(t, example(), step-1); got != want {
			t.Errorf("Oldest(%d) = %d, want %d", step-1, got, want)
		}
	}
	sameSteps(t, outcomes(t, example()), 4)

	fails := laid(begin(0), quit(0, api.EndStale), again(0))
	for step, want := range []int64{-1, 0, 0, 0} {
		if got := oldest(t, fails, step-1); got != want {
			t.Errorf("Oldest(%d) = %d, want %d", step-1, got, want)
		}
	}
	sameSteps(t, outcomes(t, fails))

	sameValues(t, at(t, first, nil, -1), first)
	sameValues(t, at(t, nil, nil, -1), nil)
	if got := oldest(t, nil, -1); got != -1 {
		t.Errorf("Oldest = %d", got)
	}
	sameSteps(t, outcomes(t, nil))
}

// No such step: below -1, and from the number of rows on.
func TestErrWhen(t *testing.T) {
	for _, rows := range [][]api.Row{nil, laid(stutter()), example(), story()} {
		for _, step := range []int{-2, -3, math.MinInt, len(rows), len(rows) + 1, math.MaxInt, 1 << 32} {
			if v, e := history.At(fixture.Numbers(4), rows, step); v != nil || e != api.ErrWhen {
				t.Errorf("At(%d) of %d rows = %v, %d", step, len(rows), v, e)
			}
			if o, e := history.Oldest(rows, step); o != 0 || e != api.ErrWhen {
				t.Errorf("Oldest(%d) of %d rows = %d, %d", step, len(rows), o, e)
			}
		}
		at(t, fixture.Numbers(4), rows, -1)
		at(t, fixture.Numbers(4), rows, len(rows)-1)
		oldest(t, rows, -1)
		oldest(t, rows, len(rows)-1)
	}
}

// seq looks that At tells, from each step of a list on, these numbers, up to the next one; ahead of all the first ones.
func seq(t *testing.T, rows []api.Row, first []int64, from map[int][]int64) {
	t.Helper()
	now := first
	for step := -1; step < len(rows); step++ {
		if next, is := from[step]; is {
			now = next
		}
		if got := at(t, fixture.Numbers(first...), rows, step); len(got) != len(first) {
			t.Fatalf("step %d: %v", step, got)
		} else {
			sameValues(t, got, fixture.Numbers(now...))
		}
	}
}

// A commit, and nothing else, brings what was put; the one that was put last.
func TestAtCommits(t *testing.T) {
	seq(t, story(), []int64{0, 10, 20, 30, 40, 50, 60, 70, 80, 90}, map[int][]int64{
		16: {0, 10, 70, 30, 40, 50, 60, 70, 80, 90},
		40: {2, 10, 70, 30, 40, 50, 60, 70, 80, 90},
	})
	seq(t, laid(begin(0), puts(0, 0, 1), puts(0, 0, 2), puts(0, 1, 3), puts(0, 0, 4), stutter(), commit(0), back(0)), []int64{8, 9, 7},
		map[int][]int64{6: {4, 3, 7}})
	seq(t, laid(begin(0), puts(0, 0, 1), with(commit(0), func(r *api.Row) { r.Object, r.Puts, r.Put.Num = 0, true, 5 })), []int64{8},
		map[int][]int64{2: {5}}) // the row of the commit puts too
	seq(t, laid(begin(0), puts(0, 0, 1), of(0, api.RowCommit)), []int64{8}, nil) // a lost one
	seq(t, laid(begin(0), puts(0, 0, 0), commit(0)), []int64{8}, map[int][]int64{2: {0}})
	for e := api.EndUser; e <= api.EndKilled; e++ {
		seq(t, laid(begin(0), puts(0, 0, 1), quit(0, e)), []int64{8}, nil)
	}
}

// What counts is who committed last, not who began last, nor who put last.
func TestAtTheLastCommit(t *testing.T) {
	seq(t, laid(begin(0), begin(1), puts(0, 0, 1), puts(1, 0, 2), commit(1), commit(0)), []int64{8}, map[int][]int64{4: {2}, 5: {1}})
	seq(t, laid(begin(0), begin(1), puts(0, 0, 1), puts(1, 0, 2), commit(0), commit(1)), []int64{8}, map[int][]int64{4: {1}, 5: {2}})
	seq(t, laid(begin(1), begin(0), puts(1, 0, 2), puts(1, 1, 2), puts(0, 0, 1), puts(0, 2, 1), commit(1), commit(0)), []int64{8, 8, 8},
		map[int][]int64{6: {2, 2, 8}, 7: {1, 2, 1}})
	// one that puts nothing into it takes nothing back
	seq(t, laid(begin(0), puts(0, 0, 1), commit(0), back(0), begin(1), puts(1, 0, 2), commit(1), begin(0), puts(0, 1, 3), commit(0)), []int64{8, 8},
		map[int][]int64{2: {1, 8}, 6: {2, 8}, 9: {2, 3}})
	// a thread's earlier attempts are none of it: of the same transaction, of another
	seq(t, laid(begin(0), puts(0, 0, 1), puts(0, 1, 1), quit(0, api.EndStale), again(0), puts(0, 1, 2), commit(0)), []int64{8, 8}, map[int][]int64{6: {8, 2}})
	seq(t, laid(begin(0), puts(0, 0, 1), quit(0, api.EndUser), back(0), begin(0), commit(0)), []int64{8}, nil)
	seq(t, laid(begin(0), puts(0, 0, 1), quit(0, api.EndBad), back(0), begin(0), puts(0, 1, 5), commit(0)), []int64{8, 8}, map[int][]int64{6: {8, 5}})
}

// Just the objects of first are told, whatever was put elsewhere; all three fields.
func TestAtObjects(t *testing.T) {
	v := api.Value{Num: math.MinInt64, Next: -1, Dead: true}
	rows := laid(begin(5), puts(5, 3, 4), puts(5, math.MaxInt, 1), with(puts(5, 1, 0), func(r *api.Row) { r.Put = v }), puts(5, 2, 6), commit(5))
	first := []api.Value{{Num: 1, Next: 2, Dead: true}, {Num: 3}, {Next: -1}, {Dead: true}}
	want := []api.Value{first[0], v, {Num: 6}, {Num: 4}}
	for n := range 5 {
		sameValues(t, at(t, first[:n], rows, 4), first[:n])
		sameValues(t, at(t, first[:n], rows, 5), want[:n])
	}
	sameValues(t, at(t, []api.Value{}, rows, 5), nil)
}

// stamps looks that Oldest tells these stamps behind each step, -1 first.
func stamps(t *testing.T, rows []api.Row, want ...int64) {
	t.Helper()
	if len(want) != len(rows)+1 {
		t.Fatalf("%d rows, %d stamps", len(rows), len(want))
	}
	for i, w := range want {
		if got := oldest(t, rows, i-1); got != w {
			t.Fatalf("Oldest(%d) = %d, want %d", i-1, got, w)
		}
	}
}

func TestOldest(t *testing.T) {
	stamps(t, laid(stutter(), begin(2), stutter(), commit(2), back(2), begin(2), of(2, api.RowPoint)), -1, -1, 0, 0, -1, -1, 1, 1)
	// who goes first, whoever began where
	stamps(t, laid(begin(5), begin(1), begin(3), commit(1), commit(5), back(5), begin(5), begin(0), quit(3, api.EndUser), back(3), quit(0, api.EndBad), commit(5)),
		-1, 0, 0, 0, 0, 2, 2, 2, 2, 3, 3, 3, -1)
	// one that fails goes on; the outcome counts, not the return
	stamps(t, laid(begin(1), begin(0), quit(1, api.EndStale), again(1), killed(1, api.RowLook), again(1), commit(0), quit(1, api.EndUser), begin(2), back(1), back(0)),
		-1, 0, 0, 0, 0, 0, 0, 0, -1, 2, 2, 2)
	for e := api.EndUser; e <= api.EndKilled; e++ {
		want := int64(-1)
		if e == api.EndStale || e == api.EndKilled {
			want = 0
		}
		stamps(t, laid(begin(4), quit(4, e)), -1, 0, want)
	}
	stamps(t, laid(begin(4), of(4, api.RowCommit), quit(4, api.EndNone)), -1, 0, 0, 0)
	// rows that are no RowBegin say nothing of a stamp
	stamps(t, laid(begin(4), begin(1), quit(4, api.EndStale), with(again(4), func(r *api.Row) { r.Seen = 9 }), with(commit(1), func(r *api.Row) { r.Seen = -7 })),
		-1, 0, 0, 0, 0, 0)
}

// All six threads, who end in the order of their beginning and against it.
func TestOldestOfSix(t *testing.T) {
	var list []api.Row
	for _, p := range []int{3, 1, 5, 0, 4, 2} {
		list = append(list, begin(p))
	}
	ahead, against := list, list
	for i, p := range []int{3, 1, 5, 0, 4, 2} {
		ahead = append(ahead[:len(ahead):len(ahead)], commit(p))
		against = append(against[:len(against):len(against)], commit([]int{2, 4, 0, 5, 1, 3}[i]))
	}
	stamps(t, laid(ahead...), -1, 0, 0, 0, 0, 0, 0, 1, 2, 3, 4, 5, -1)
	stamps(t, laid(against...), -1, 0, 0, 0, 0, 0, 0, 0, 0, 0, 0, 0, -1)
}

func TestOutcomes(t *testing.T) {
	sameSteps(t, outcomes(t, story()), 16, 22, 33, 40)
	sameSteps(t, outcomes(t, laid(stutter(), begin(0), begin(1), begin(2), quit(2, api.EndBad), quit(0, api.EndUser), commit(1), back(0), back(1))), 4, 5, 6)
	sameSteps(t, outcomes(t, laid(begin(0), quit(0, api.EndKilled), again(0), quit(0, api.EndStale), again(0), of(0, api.RowCommit), killed(0, api.RowCommit))))
	sameSteps(t, outcomes(t, laid(begin(0), commit(0))), 1)
}

// Rows of nothing but zeros: a stutter of thread 0, which may not stand.
func TestZeroRows(t *testing.T) {
	checks(t, make([]api.Row, 3), 0)
}
