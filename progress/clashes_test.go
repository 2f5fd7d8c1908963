package progress_test

import (
	"math"
	"slices"
	"testing"

	"braid/api"
)

// The kinds of rows that are a conflict's, beside RowDown.
var conflicts = []int{api.RowMine, api.RowLook, api.RowUp, api.RowWait, api.RowKill}

// met is a row over object 4 with an enemy.
func met(thread, kind, enemy int) api.Row {
	return with(of(thread, kind), func(r *api.Row) { r.Enemy, r.Object, r.Phase = enemy, 4, api.PhaseWrite })
}

// status is a RowStatus with an enemy.
func status(thread, enemy int, seen int64) api.Row {
	return with(met(thread, api.RowStatus, enemy), func(r *api.Row) { r.Seen = seen })
}

// down is a RowDown.
func down(thread, enemy int) api.Row { return met(thread, api.RowDown, enemy) }

func ends(r api.Row, end int) api.Row { return with(r, func(r *api.Row) { r.End = end }) }

func timeout(r api.Row) api.Row { return with(r, func(r *api.Row) { r.Timeout = true }) }

// of0 is a conflict of thread 0's attempt 1 over object 4.
func of0(enemy, from, to, rounds, waited, over int) api.Clash {
	return api.Clash{Attempt: 1, Enemy: enemy, Object: 4, Phase: api.PhaseWrite, From: from, To: to, Rounds: rounds, Waited: waited, Over: over}
}

// tells looks at the conflicts of thread 0's attempt 1 in these rows, of which the first is step 1.
func tells(t *testing.T, list []api.Row, want ...api.Clash) {
	t.Helper()
	rows := laid(append([]api.Row{begin(0)}, list...)...)
	clash(t, rows, want...)
	if plain := plainClashes(t, rows); !slices.Equal(plain, want) {
		t.Fatalf("by the words of the chapter %+v, want %+v", plain, want)
	}
}

func rows(list ...api.Row) []api.Row { return list }

// Chapter 21's example 4, by hand: chapter 8's example 2 as rows of two threads.
func TestClashOfTheChapter(t *testing.T) {
	b := func(kind int) api.Row {
		return with(of(1, kind), func(r *api.Row) { r.Object, r.Enemy, r.Phase = 0, 1, api.PhaseRead })
	}
	looks := func(seen int64) []api.Row {
		return rows(with(of(1, api.RowPoint), func(r *api.Row) { r.Object, r.Phase = 0, api.PhaseRead }), with(b(api.RowStatus), func(r *api.Row) { r.Seen = seen }))
	}
	list := rows(begin(0), begin(1))
	list = append(list, looks(api.Active)...)
	for range 8 {
		list = append(list, b(api.RowMine), with(b(api.RowLook), func(r *api.Row) { r.Wait = 1 }), b(api.RowWait))
		list = append(list, looks(api.Active)...)
	}
	list = append(list, b(api.RowMine), with(b(api.RowLook), func(r *api.Row) { r.Abort = true }), b(api.RowKill))
	list = append(list, looks(api.Aborted)...)
	list = append(list, with(of(1, api.RowMine), func(r *api.Row) { r.Object, r.Phase = 0, api.PhaseRead }))
	clash(t, laid(list...), api.Clash{
		Thread: 1, Attempt: 2, Enemy: 1, Object: 0, Phase: api.PhaseRead, From: 4, To: 46, Rounds: 9, Waited: 8, Over: api.OverKill,
	})
}

// Rule 1: each of five kinds begins a conflict, with any enemy from 0 on, and no other kind does.
func TestWhatBegins(t *testing.T) {
	for _, enemy := range []int{0, 1, 7, 1 << 32, math.MaxInt} {
		tells(t, rows(met(0, api.RowMine, enemy)), of0(enemy, 1, 1, 0, 0, api.OverRun))
		tells(t, rows(met(0, api.RowLook, enemy)), of0(enemy, 1, 1, 1, 0, api.OverRun))
		tells(t, rows(met(0, api.RowUp, enemy)), of0(enemy, 1, 1, 0, 0, api.OverRun))
		tells(t, rows(met(0, api.RowWait, enemy)), of0(enemy, 1, 1, 0, 1, api.OverRun))
		tells(t, rows(met(0, api.RowKill, enemy)), of0(enemy, 1, 1, 0, 0, api.OverKill))
		for kind := api.RowLocal; kind <= api.RowQuit; kind++ {
			if !slices.Contains(conflicts, kind) {
				tells(t, rows(met(0, kind, enemy)))
			}
		}
	}
	for _, enemy := range []int{-1, -2, math.MinInt, -1 << 32} {
		for _, kind := range conflicts {
			tells(t, rows(met(0, kind, enemy)))
		}
	}
}

// A row of nobody's attempt does nothing, whatever stands in it.
func TestRowsOfNoAttempt(t *testing.T) {
	odd := func(r api.Row) api.Row {
		return with(r, func(r *api.Row) { r.Enemy, r.Object, r.Phase, r.Seen, r.Timeout = 8, 4, api.PhaseRead, 3, true })
	}
	clash(t, laid(odd(begin(0)), odd(stutter()), quit(0, api.EndStale), odd(again(0)), commit(0), odd(back(0)), odd(stutter())))
	clash(t, laid(begin(0), met(0, api.RowLook, 7), odd(stutter()), met(0, api.RowLook, 7)), of0(7, 1, 3, 2, 0, api.OverRun))
}

// Rule 1: what later rows of a conflict are told by, and what stays as the first one told it.
func TestWhatGoesOn(t *testing.T) {
	other := func(kind int) api.Row {
		return with(met(0, kind, 7), func(r *api.Row) { r.Object, r.Phase = 9, api.PhaseFinal })
	}
	tells(t, rows(met(0, api.RowMine, 7), other(api.RowLook), other(api.RowUp), other(api.RowWait), other(api.RowWait)), of0(7, 1, 5, 1, 2, api.OverRun))
	tells(t, rows(met(0, api.RowMine, 7), other(api.RowLook), other(api.RowKill)), of0(7, 1, 3, 1, 0, api.OverKill))
	for kind := api.RowLocal; kind <= api.RowQuit; kind++ { // rows between them, of whomever
		if kind != api.RowStatus && !slices.Contains(conflicts, kind) {
			tells(t, rows(met(0, api.RowWait, 7), met(0, kind, 7), met(0, kind, -1), met(0, kind, 8)), of0(7, 1, 1, 0, 1, api.OverRun))
			tells(t, rows(met(0, api.RowWait, 7), met(0, kind, 8), met(0, api.RowWait, 7)), of0(7, 1, 3, 0, 2, api.OverRun))
		}
	}
	for _, kind := range conflicts { // rows of the kinds without an enemy
		tells(t, rows(met(0, api.RowLook, 7), timeout(met(0, kind, -1))), of0(7, 1, 1, 1, 0, api.OverRun))
		tells(t, rows(met(0, api.RowLook, 7), met(0, kind, -2), met(0, api.RowWait, 7)), of0(7, 1, 3, 1, 1, api.OverRun))
	}
}

// Rule 1: a row with another enemy ends a conflict, whose last row was the one ahead, and begins the next.
func TestAnotherEnemy(t *testing.T) {
	for _, enemy := range []int{0, 6, 8, math.MaxInt} {
		gone := of0(7, 1, 3, 1, 1, api.OverGone)
		ahead := rows(met(0, api.RowMine, 7), met(0, api.RowLook, 7), met(0, api.RowWait, 7), of(0, api.RowPoint))
		behind := func(r ...api.Row) []api.Row { return slices.Concat(ahead, r) }
		tells(t, behind(met(0, api.RowMine, enemy)), gone, of0(enemy, 5, 5, 0, 0, api.OverRun))
		tells(t, behind(met(0, api.RowLook, enemy)), gone, of0(enemy, 5, 5, 1, 0, api.OverRun))
		tells(t, behind(met(0, api.RowUp, enemy)), gone, of0(enemy, 5, 5, 0, 0, api.OverRun))
		tells(t, behind(met(0, api.RowWait, enemy)), gone, of0(enemy, 5, 5, 0, 1, api.OverRun))
		tells(t, behind(met(0, api.RowKill, enemy)), gone, of0(enemy, 5, 5, 0, 0, api.OverKill))
		tells(t, behind(met(0, api.RowKill, enemy), down(0, enemy)), gone, of0(enemy, 5, 6, 0, 0, api.OverKill))
		tells(t, behind(met(0, api.RowKill, enemy), down(0, 7)), gone, of0(enemy, 5, 6, 0, 0, api.OverKill))
		tells(t, behind(met(0, api.RowMine, enemy), down(0, 7)), gone, of0(enemy, 5, 5, 0, 0, api.OverRun))
		tells(t, behind(met(0, api.RowWait, enemy), met(0, api.RowMine, 7)), gone, of0(enemy, 5, 5, 0, 1, api.OverGone), of0(7, 6, 6, 0, 0, api.OverRun))
	}
}

// Rule 1: a kill ends a conflict; the same enemy may be met anew.
func TestKill(t *testing.T) {
	tells(t, rows(met(0, api.RowMine, 7), met(0, api.RowLook, 7), met(0, api.RowKill, 7)), of0(7, 1, 3, 1, 0, api.OverKill))
	tells(t, rows(met(0, api.RowLook, 7), met(0, api.RowKill, 7), met(0, api.RowKill, 7), met(0, api.RowMine, 7)),
		of0(7, 1, 2, 1, 0, api.OverKill), of0(7, 3, 3, 0, 0, api.OverKill), of0(7, 4, 4, 0, 0, api.OverRun))
	tells(t, rows(met(0, api.RowLook, 7), met(0, api.RowKill, 7), status(0, 7, api.Aborted), down(0, 7)), of0(7, 1, 2, 1, 0, api.OverKill))
}

// Rule 2: a status ends a conflict, if the enemy is not met there, or not Active; it is no row of the conflict itself.
func TestStatus(t *testing.T) {
	ahead := rows(met(0, api.RowLook, 7), met(0, api.RowWait, 7), of(0, api.RowPoint))
	behind := func(r ...api.Row) []api.Row { return slices.Concat(ahead, r) }
	tells(t, behind(status(0, 7, api.Active)), of0(7, 1, 2, 1, 1, api.OverRun))
	tells(t, behind(status(0, 7, api.Active), met(0, api.RowMine, 7), met(0, api.RowLook, 7)), of0(7, 1, 6, 2, 1, api.OverRun))
	gone := of0(7, 1, 2, 1, 1, api.OverGone)
	for _, seen := range []int64{api.Committed, api.Aborted, 0, -1, 4, 1<<32 + 1, math.MinInt64, math.MaxInt64} {
		tells(t, behind(status(0, 7, seen)), gone)
		tells(t, behind(status(0, 8, seen)), gone)
		tells(t, behind(status(0, 7, seen), met(0, api.RowMine, 7)), gone, of0(7, 5, 5, 0, 0, api.OverRun))
		tells(t, rows(status(0, 7, seen)))
	}
	for _, enemy := range []int{8, 6, 0, -1, -7, math.MaxInt, math.MinInt, 1<<32 + 7} {
		tells(t, behind(status(0, enemy, api.Active)), gone)
		tells(t, rows(status(0, enemy, api.Active)))
	}
	tells(t, behind(status(0, 8, api.Active), met(0, api.RowMine, 8)), gone, of0(8, 5, 5, 0, 0, api.OverRun))
	tells(t, behind(status(0, 8, api.Active), status(0, 8, api.Active), met(0, api.RowMine, 7)), gone, of0(7, 6, 6, 0, 0, api.OverRun))
	tells(t, rows(status(0, 7, api.Active), met(0, api.RowMine, 7)), of0(7, 2, 2, 0, 0, api.OverRun))
}

// Rule 3: the flag that goes down belongs to the conflict that the attempt's row just ahead ended.
func TestDown(t *testing.T) {
	look, kill, gone := met(0, api.RowLook, 7), met(0, api.RowKill, 7), status(0, 7, api.Committed)
	for _, enemy := range []int{7, 8, 0, -1} { // whatever its own enemy is
		tells(t, rows(look, kill, down(0, enemy)), of0(7, 1, 3, 1, 0, api.OverKill))
		tells(t, rows(look, gone, down(0, enemy)), of0(7, 1, 3, 1, 0, api.OverGone))
		tells(t, rows(look, status(0, 8, api.Active), down(0, enemy)), of0(7, 1, 3, 1, 0, api.OverGone))
		tells(t, rows(look, status(0, 7, api.Active), down(0, enemy)), of0(7, 1, 1, 1, 0, api.OverRun))
		tells(t, rows(look, down(0, enemy)), of0(7, 1, 1, 1, 0, api.OverRun))
		tells(t, rows(down(0, enemy), look), of0(7, 2, 2, 1, 0, api.OverRun))
		tells(t, rows(look, gone, status(0, 8, api.Active), down(0, enemy)), of0(7, 1, 1, 1, 0, api.OverGone))
		tells(t, rows(gone, down(0, enemy)))
		tells(t, rows(met(0, api.RowKill, -1), down(0, enemy)))
		tells(t, rows(look, met(0, api.RowKill, -1), down(0, enemy)), of0(7, 1, 1, 1, 0, api.OverRun))
		tells(t, rows(look, kill, down(0, enemy), down(0, enemy)), of0(7, 1, 3, 1, 0, api.OverKill)) // the first one alone
		tells(t, rows(look, gone, down(0, enemy), down(0, enemy)), of0(7, 1, 3, 1, 0, api.OverGone))
	}
	for kind := api.RowLocal; kind <= api.RowQuit; kind++ { // a row of the attempt between
		if kind == api.RowDown {
			continue
		}
		between := of(0, kind)
		tells(t, rows(look, kill, between, down(0, 7)), of0(7, 1, 2, 1, 0, api.OverKill))
		tells(t, rows(look, gone, between, down(0, 7)), of0(7, 1, 1, 1, 0, api.OverGone))
	}
	// rows of others between
	all := laid(begin(0), begin(1), look, kill, stutter(), met(1, api.RowMine, 1), down(0, 7))
	clash(t, all, of0(7, 2, 6, 1, 0, api.OverKill), api.Clash{Thread: 1, Attempt: 2, Enemy: 1, Object: 4, Phase: api.PhaseWrite, From: 5, To: 5})
	// a flag of another thread, and another thread's conflict
	all = laid(begin(0), begin(1), look, kill, down(1, 7), begin(2), down(0, 7))
	clash(t, all, of0(7, 2, 6, 1, 0, api.OverKill))
	all = laid(begin(0), begin(1), look, kill, met(1, api.RowKill, 1), down(0, 7), down(1, 1))
	clash(t, all, of0(7, 2, 5, 1, 0, api.OverKill), api.Clash{Thread: 1, Attempt: 2, Enemy: 1, Object: 4, Phase: api.PhaseWrite, From: 4, To: 6, Over: api.OverKill})
}

// A flag that goes down in the next attempt's first row has no row of its attempt ahead.
func TestDownInTheNextAttempt(t *testing.T) {
	look, kill, gone := met(0, api.RowLook, 7), met(0, api.RowKill, 7), status(0, 7, api.Committed)
	clash(t, laid(begin(0), look, ends(kill, api.EndKilled), again(0), down(0, 7)), of0(7, 1, 2, 1, 0, api.OverKill))
	clash(t, laid(begin(0), look, ends(gone, api.EndStale), again(0), down(0, 7)), of0(7, 1, 1, 1, 0, api.OverGone))
	clash(t, laid(begin(0), look, kill, commit(0), back(0), begin(0), down(0, 7)), of0(7, 1, 2, 1, 0, api.OverKill))
}

// Rule 4: an end ends a conflict that is under way behind the other rules.
func TestEnds(t *testing.T) {
	look, ended := met(0, api.RowLook, 7), []int{api.EndStale, api.EndKilled}
	for _, end := range ended {
		tells(t, rows(look, ends(met(0, api.RowMine, 7), end)), of0(7, 1, 2, 1, 0, api.OverEnded))
		tells(t, rows(ends(look, end)), of0(7, 1, 1, 1, 0, api.OverEnded))
		tells(t, rows(look, ends(met(0, api.RowWait, 7), end)), of0(7, 1, 2, 1, 1, api.OverEnded))
		tells(t, rows(look, ends(met(0, api.RowMine, -1), end)), of0(7, 1, 1, 1, 0, api.OverEnded))
		tells(t, rows(look, ends(met(0, api.RowWait, 8), end)), of0(7, 1, 1, 1, 0, api.OverGone), of0(8, 2, 2, 0, 1, api.OverEnded))
		tells(t, rows(look, ends(met(0, api.RowKill, 7), end)), of0(7, 1, 2, 1, 0, api.OverKill))
		tells(t, rows(look, ends(met(0, api.RowKill, 8), end)), of0(7, 1, 1, 1, 0, api.OverGone), of0(8, 2, 2, 0, 0, api.OverKill))
		tells(t, rows(look, ends(status(0, 7, api.Aborted), end)), of0(7, 1, 1, 1, 0, api.OverGone))
		tells(t, rows(look, ends(status(0, 7, api.Active), end)), of0(7, 1, 1, 1, 0, api.OverEnded))
		tells(t, rows(look, ends(down(0, 7), end)), of0(7, 1, 1, 1, 0, api.OverEnded))
		tells(t, rows(look, met(0, api.RowKill, 7), ends(down(0, 7), end)), of0(7, 1, 3, 1, 0, api.OverKill))
		tells(t, rows(ends(of(0, api.RowLocal), end)))
		tells(t, rows(look, met(0, api.RowKill, 7), ends(of(0, api.RowLocal), end)), of0(7, 1, 2, 1, 0, api.OverKill))
	}
	for _, last := range rows(commit(0), quit(0, api.EndUser), quit(0, api.EndBad), quit(0, api.EndStale), quit(0, api.EndKilled), killed(0, api.RowCommit)) {
		tells(t, rows(look, last), of0(7, 1, 1, 1, 0, api.OverEnded))
		tells(t, rows(last))
	}
}

// A verdict for want of patience is told, with whichever RowLook it comes, and stays; in other rows it says nothing.
func TestTimeout(t *testing.T) {
	out := func(c api.Clash) api.Clash {
		c.Timeout = true
		return c
	}
	look, wait, kill := met(0, api.RowLook, 7), met(0, api.RowWait, 7), met(0, api.RowKill, 7)
	tells(t, rows(timeout(look)), out(of0(7, 1, 1, 1, 0, api.OverRun)))
	tells(t, rows(look, wait, look, wait, timeout(look), kill), out(of0(7, 1, 6, 3, 2, api.OverKill)))
	tells(t, rows(timeout(look), wait, look, kill), out(of0(7, 1, 4, 2, 1, api.OverKill)))
	tells(t, rows(timeout(look), kill, look), out(of0(7, 1, 2, 1, 0, api.OverKill)), of0(7, 3, 3, 1, 0, api.OverRun))
	tells(t, rows(timeout(look), met(0, api.RowLook, 8)), out(of0(7, 1, 1, 1, 0, api.OverGone)), of0(8, 2, 2, 1, 0, api.OverRun))
	tells(t, rows(look, timeout(wait), timeout(met(0, api.RowMine, 7)), timeout(met(0, api.RowUp, 7)), timeout(kill)), of0(7, 1, 5, 1, 1, api.OverKill))
}

// Conflicts of several threads at once are told by their first rows, however they end; those that the rows end in, too.
func TestSeveralThreads(t *testing.T) {
	all := laid(
		begin(5), begin(0), begin(3), begin(2), // 0 to 3
		met(5, api.RowMine, 2), met(3, api.RowMine, 2), met(0, api.RowLook, 1), met(2, api.RowMine, 1), // 4 to 7
		met(3, api.RowKill, 2), met(0, api.RowWait, 1), met(3, api.RowMine, 4), // 8 to 10
		quit(2, api.EndStale), again(2), met(2, api.RowLook, 2), // 11 to 13
		status(0, 1, api.Committed), status(5, 2, api.Active), met(5, api.RowWait, 2), // 14 to 16
		down(0, 1), met(0, api.RowMine, 3), // 17 and 18
	)
	at := func(thread, attempt, enemy, from, to, rounds, waited, over int) api.Clash {
		return api.Clash{Thread: thread, Attempt: attempt, Enemy: enemy, Object: 4, Phase: api.PhaseWrite, From: from, To: to, Rounds: rounds, Waited: waited, Over: over}
	}
	clash(t, all,
		at(5, 1, 2, 4, 16, 0, 1, api.OverRun), at(3, 3, 2, 5, 8, 0, 0, api.OverKill), at(0, 2, 1, 6, 17, 1, 1, api.OverGone),
		at(2, 4, 1, 7, 7, 0, 0, api.OverEnded), at(3, 3, 4, 10, 10, 0, 0, api.OverRun), at(2, 5, 2, 13, 13, 1, 0, api.OverRun),
		at(0, 2, 3, 18, 18, 0, 0, api.OverRun))
	for k := range all {
		clash(t, all[:k], plainClashes(t, all[:k])...)
	}
}

// A conflict ends with its attempt: one with the same enemy in the next attempt, or in the next job, is another one.
func TestTheNextAttempt(t *testing.T) {
	look := met(0, api.RowLook, 7)
	next := func(attempt, from int) api.Clash {
		c := of0(7, from, from, 1, 0, api.OverRun)
		c.Attempt = attempt
		return c
	}
	clash(t, laid(begin(0), look, killed(0, api.RowLocal), again(0), look), of0(7, 1, 1, 1, 0, api.OverEnded), next(2, 4))
	clash(t, laid(begin(0), look, commit(0), back(0), begin(1), begin(0), look), of0(7, 1, 1, 1, 0, api.OverEnded), next(3, 6))
	clash(t, laid(begin(0), look, met(0, api.RowKill, 7), quit(0, api.EndStale), again(0), look), of0(7, 1, 2, 1, 0, api.OverKill), next(2, 5))
}
