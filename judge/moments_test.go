package judge_test

import (
	"math"
	"slices"
	"testing"

	"braid/api"
	"braid/fixture"
	"braid/judge"
)

// Chapter 16's example 2.
func TestMomentsOfTheChapter(t *testing.T) {
	_, r, first := example(t)
	moments(t, first, r.Rows, 0, 0, 0)
	opaque(t, first, r.Rows, good())
	r.Rows[3].Value.Num = 4
	moments(t, first, r.Rows, 0, -1, 0)
	opaque(t, first, r.Rows, breaks(0, 0))
}

// Which step it is: the least one of those from the begin to the saw behind which all of it stands.
func TestWhichMoment(t *testing.T) {
	first := fixture.Numbers(1, 5)
	own := func(r *api.Row) {
		r.Told, r.Phase, r.Object, r.Value = true, api.PhaseRead, 0, api.Value{Num: 9}
	}
	for _, c := range []struct {
		what string
		rows []api.Row
		tx   int
		want []int
	}{
		{"the begin", list(begin(0), stutter(), stutter(), reads(0, 0, 0, 1)), 0, []int{0}},
		{"the begin of a later one", list(stutter(), begin(0), stutter(), reads(0, 0, 0, 1)), 0, []int{1}},
		{"the begin of a further attempt", list(begin(0), quit(0, api.EndStale), stutter(), again(0), reads(0, 0, 0, 1)), 1, []int{3}},
		{"the commit of another one", list(begin(0), sets(5, 0, 2), reads(0, 0, 0, 2)), 0, []int{3}},
		{"the commit, not what stands behind it", list(begin(0), sets(5, 0, 2), stutter(), stutter(), reads(0, 0, 0, 2)), 0, []int{3}},
		{"the commit at the begin itself is ahead of it", list(sets(5, 0, 2), begin(0), reads(0, 0, 0, 2), reads(0, 0, 1, 1)), 1, []int{4, -1}},
		{"ahead of a commit", list(begin(0), sets(5, 0, 2), reads(0, 0, 0, 1)), 0, []int{0}},
		{"what stood ahead of the begin alone", list(sets(5, 0, 2), begin(0), reads(0, 0, 0, 1)), 1, []int{-1}},
		{"what comes behind the saw alone", list(begin(0), reads(0, 0, 0, 2), sets(5, 0, 2)), 0, []int{-1}},
		{"what comes just behind the saw", list(begin(0), begin(5), puts(5, 0, 2), reads(0, 0, 0, 2), commit(5)), 0, []int{-1}},
		{"what was just committed", list(begin(0), begin(5), puts(5, 0, 2), commit(5), reads(0, 0, 0, 2)), 0, []int{3}},
		{"the saw's own step, as it commits", list(begin(0), reads(0, 0, 0, 9), puts(0, 0, 9), with(commit(0), own)), 0, []int{-1, 3}},
		{"ahead of its own commit", list(begin(0), reads(0, 0, 0, 1), puts(0, 0, 9), with(commit(0), own)), 0, []int{0, 0}},
		{"two that stand apart, and together later", list(begin(0), sets(5, 0, 2), sets(5, 1, 6), sets(5, 0, 1), reads(0, 0, 0, 1), reads(0, 1, 1, 6)), 0, []int{0, 11}},
		{"two that stand apart, and never together", list(begin(0), sets(5, 0, 2), sets(5, 1, 6), reads(0, 0, 0, 1), reads(0, 1, 1, 6)), 0, []int{0, -1}},
		{"two that stand together too late", list(begin(0), sets(5, 0, 2), sets(5, 1, 6), reads(0, 0, 0, 1), reads(0, 1, 1, 6), sets(5, 0, 1)), 0, []int{0, -1}},
		{"two that stood together for a while", list(begin(0), sets(5, 0, 2), sets(4, 1, 6), sets(5, 0, 3), sets(4, 1, 7), reads(0, 1, 0, 6), reads(0, 0, 1, 2)), 0, []int{7, 7}},
		{"what went and came again", list(begin(0), sets(5, 0, 2), sets(5, 0, 1), sets(5, 0, 2), reads(0, 0, 0, 2), reads(0, 1, 1, 5)), 0, []int{3, 3}},
		{"the same put again", list(begin(0), sets(5, 0, 1), sets(5, 0, 1), reads(0, 0, 0, 1)), 0, []int{0}},
		{"earlier again, as a read is let go", list(begin(0), sets(5, 0, 2), reads(0, 0, 0, 2), release(0, 0), reads(0, 1, 1, 5)), 0, []int{3, 0}},
		{"K is empty", list(stutter(), begin(0), puts(0, 0, 9), reread(0, 0, -1, 9)), 0, []int{1}},
		{"K is empty, but the saw does not fit", list(stutter(), begin(0), puts(0, 0, 9), reread(0, 0, -1, 8)), 0, []int{-1}},
		{"one that does not fit, though all of K stands", list(begin(0), reads(0, 0, 0, 1), reread(0, 0, 0, 2)), 0, []int{0, -1}},
		{"one that fits, though another one did not", list(begin(0), reads(0, 0, 0, 1), reread(0, 0, 0, 2), reads(0, 1, 1, 5)), 0, []int{0, -1, 0}},
		{"no object of first", list(begin(0), reads(0, 2, 0, 0)), 0, []int{-1}},
		{"no object of first, but somebody put it", list(begin(0), sets(5, 2, 7), reads(0, 2, 0, 7)), 0, []int{-1}},
		{"the greatest object", list(begin(0), reads(0, math.MaxInt, 0, 0), release(0, 0), reads(0, 0, 1, 1)), 0, []int{-1, 0}},
		{"no saws", list(begin(0), puts(0, 0, 9), commit(0)), 0, nil},
	} {
		t.Run(c.what, func(t *testing.T) { moments(t, first, c.rows, c.tx, c.want...) })
	}
}

// What the committed values are: the last put of each object, of those that commit, in the order of their commits.
func TestWhoseValues(t *testing.T) {
	first := fixture.Numbers(1, 5)
	for _, c := range []struct {
		what string
		rows []api.Row
		want []int
	}{
		{"the last put", list(begin(0), begin(5), puts(5, 0, 2), puts(5, 0, 3), commit(5), reads(0, 0, 0, 2), release(0, 0), reads(0, 0, 1, 3)), []int{-1, 4}},
		{"both objects at once", list(begin(0), begin(5), puts(5, 0, 2), puts(5, 1, 6), commit(5), reads(0, 0, 0, 2), reads(0, 1, 1, 6)), []int{4, 4}},
		{"both at once: not the one without the other", list(begin(0), begin(5), puts(5, 0, 2), puts(5, 1, 6), commit(5), reads(0, 0, 0, 2), reads(0, 1, 1, 5)), []int{4, -1}},
		{"under way", list(begin(0), begin(5), puts(5, 0, 2), reads(0, 0, 0, 2)), []int{-1}},
		{"given up", list(begin(0), begin(5), puts(5, 0, 2), quit(5, api.EndUser), reads(0, 0, 0, 2)), []int{-1}},
		{"killed, and not put again", list(begin(0), begin(5), puts(5, 0, 2), killed(5, api.RowMine), again(5), puts(5, 1, 6), commit(5), reads(0, 0, 0, 2), reads(0, 1, 1, 6)), []int{-1, -1}},
		{"the last one to commit, not to begin", list(begin(0), begin(4), begin(5), puts(5, 0, 2), puts(4, 0, 3), commit(5), commit(4), reads(0, 0, 0, 3), release(0, 0), reads(0, 0, 1, 2)), []int{6, 5}},
		{"the last one to commit began last", list(begin(0), begin(4), begin(5), puts(5, 0, 2), puts(4, 0, 3), commit(4), commit(5), reads(0, 0, 0, 3), release(0, 0), reads(0, 0, 1, 2)), []int{5, 6}},
	} {
		t.Run(c.what, func(t *testing.T) { moments(t, first, c.rows, 0, c.want...) })
	}
}

// The errors of Moments, and chapter 16's example 6.
func TestMomentsRefused(t *testing.T) {
	first := fixture.Numbers(1, 5)
	rows := list(begin(0), reads(0, 0, 0, 1), begin(5), reads(5, 1, 0, 5), reads(5, 1, 0, 4))
	wrong := slices.Clone(rows)
	wrong[4].Step = 7
	no := func(rows []api.Row, tx int, why api.Errno) {
		t.Helper()
		if got, e := judge.Moments(first, rows, tx); got != nil || e != why {
			t.Fatalf("Moments(%d) = %v, %d, want %d", tx, got, e, why)
		}
	}
	for _, tx := range []int{-1, 2, 3, -2, math.MinInt, math.MaxInt} {
		no(rows, tx, api.ErrTxs)
		no(wrong, tx, api.ErrRows)
		no(nil, tx, api.ErrTxs)
	}
	for _, tx := range []int{0, 1} {
		no(wrong, tx, api.ErrRows)
		no(nil, tx, api.ErrTxs)
		no([]api.Row{}, tx, api.ErrTxs)
		no(list(stutter()), tx, api.ErrTxs)
	}
	moments(t, first, rows, 0, 0)
	moments(t, first, rows, 1, 2, -1)
	moments(t, nil, rows, 1, -1, -1)
}

// The first attempt that breaks, by its place, and its first saw.
func TestWhichBreaks(t *testing.T) {
	first := fixture.Numbers(1, 5)
	bad, fine := func(thread, entry int) api.Row { return reads(thread, 0, entry, 9) }, func(thread, entry int) api.Row { return reads(thread, 1, entry, 5) }
	for _, c := range []struct {
		what string
		rows []api.Row
		want api.Finding
	}{
		{"none", list(begin(3), begin(0), fine(0, 0), fine(3, 0)), good()},
		{"the first one", list(begin(3), bad(3, 0)), breaks(0, 0)},
		{"by its place, not by the step of the saw", list(begin(3), begin(0), bad(0, 0), bad(3, 0)), breaks(0, 0)},
		{"by its place, not by its thread", list(begin(3), begin(0), fine(3, 0), bad(0, 0), bad(3, 1)), breaks(0, 1)},
		{"behind those that have none", list(begin(3), fine(3, 0), quit(3, api.EndStale), begin(0), again(3), begin(4), fine(4, 0), fine(4, 1), bad(4, 2), bad(4, 3), bad(3, 0)), breaks(2, 0)},
		{"a later saw", list(begin(3), begin(4), fine(4, 0), fine(4, 1), bad(4, 2), fine(4, 3)), breaks(1, 2)},
		{"the last place", list(begin(3), begin(4), begin(5), begin(0), begin(1), begin(2), fine(3, 0), bad(2, 0)), breaks(5, 0)},
		{"one that was killed", list(begin(3), bad(3, 0), killed(3, api.RowMine), again(3), fine(3, 0), commit(3)), breaks(0, 0)},
		{"one that gave itself up", list(begin(3), bad(3, 0), quit(3, api.EndUser)), breaks(0, 0)},
		{"a saw of its own that does not fit", list(begin(3), puts(3, 0, 4), reread(3, 0, -1, 4), reread(3, 0, -1, 1)), breaks(0, 1)},
		{"no attempts", list(stutter(), stutter()), good()},
		{"no rows", nil, good()},
	} {
		t.Run(c.what, func(t *testing.T) { opaque(t, first, c.rows, c.want) })
	}
	opaque(t, nil, list(begin(0), reads(0, 0, 0, 0)), breaks(0, 0))
	opaque(t, nil, nil, good())
	wrong := list(begin(0), fine(0, 0))
	wrong[0].Seen = 1
	if got, e := judge.Opaque(first, wrong); got != (api.Finding{}) || e != api.ErrRows {
		t.Errorf("Opaque = %+v, %d", got, e)
	}
}

// More rows and attempts than a run has.
func TestManyRows(t *testing.T) {
	t.Parallel()
	var all []api.Row
	for n := range 6000 {
		all = append(all, begin(0), reads(0, n%7, 0, int64(n/7)), writes(0, n%7, 0, int64(n/7), int64(n/7+1)), commit(0), back(0))
	}
	all = append(all, begin(0))
	for n := range 5000 {
		all = append(all, reads(0, n, n, int64(n%2)))
	}
	first := make([]api.Value, 5000)
	for n := range first {
		first[n].Num = int64(n % 2)
		if n < 7 {
			first[n].Num = 0
		}
	}
	rows := laid(all...)
	opaque(t, first, rows[:30000], good())
	opaque(t, first, rows, breaks(6000, 0))
	rows[29997].Value.Num++
	opaque(t, first, rows, breaks(5999, 1))
	for n := range 7 { // object n has had 6000/7 puts, the first ones of the seven one more
		rows[30001+n].Value.Num = int64((6000 - n + 6) / 7)
	}
	got, e := judge.Moments(first, rows, 6000)
	if e != api.OK || !slices.Equal(got, slices.Repeat([]int{30000}, 5000)) {
		t.Errorf("%d moments, %d", len(got), e)
	}
}
