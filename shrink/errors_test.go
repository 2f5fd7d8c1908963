package shrink_test

import (
	"math"
	"slices"
	"testing"

	"braid/api"
	"braid/fixture"
	"braid/machine"
	"braid/shrink"
)

// wishless are numbers that are no wish's.
func wishless() []int {
	return []int{-1, api.Wishes, -2, api.Wishes + 1, 64, 1 << 32, -1 << 32, math.MinInt, math.MinInt + 1, math.MaxInt, math.MaxInt - 1}
}

// filled lays picks of nobody behind a script's own, until they are so many.
func filled(s machine.Script, picks int) machine.Script {
	s.Picks = slices.Concat(s.Picks, times(picks-len(s.Picks), -1))
	return s
}

// commits is a script whose run has WishCommit and no other wish.
func commits(t *testing.T) machine.Script {
	t.Helper()
	s := script(list(0, 2, 1, 2), thread(t, ""), thread(t, ""))
	fulfils(t, s, api.WishCommit)
	return s
}

// What machine.Check refuses is told first of all: ahead of a wish that there is not, of too many picks, of a run without
// the wish.
func TestRefusedScripts(t *testing.T) {
	good := commits(t)
	for _, picks := range []int{len(good.Picks), api.MaxShrink + 1} {
		for why, s := range fixture.Faulty(filled(good, picks)) {
			if e := machine.Check(s); e != why {
				t.Fatalf("Check = %d, want %d", e, why)
			}
			for wish := range api.Wishes {
				refused(t, s, wish, why)
			}
			for _, wish := range wishless() {
				refused(t, s, wish, why)
			}
		}
	}
	refused(t, machine.Script{}, api.WishCommit, api.ErrThreads)
	refused(t, machine.Script{}, api.Wishes, api.ErrThreads)
}

// A wish that there is not, alone and ahead of too many picks.
func TestNoSuchWish(t *testing.T) {
	for _, wish := range wishless() {
		refused(t, script(nil, nil), wish, api.ErrWish)
		refused(t, commits(t), wish, api.ErrWish)
		for _, picks := range []int{api.MaxShrink, api.MaxShrink + 1, api.MaxPicks} {
			refused(t, filled(script(nil, nil), picks), wish, api.ErrWish)
			refused(t, filled(commits(t), picks), wish, api.ErrWish)
		}
	}
}

// Too many picks, with the wish and without it: Has answers all the same (the chapter's example 5 among them).
func TestTooManyPicks(t *testing.T) {
	for _, picks := range []int{api.MaxShrink + 1, api.MaxShrink + 2, 2 * api.MaxShrink, 256, api.MaxPicks} {
		s := filled(commits(t), picks)
		fulfils(t, s, api.WishCommit)
		for wish := range api.Wishes {
			unshrunk(t, s, wish, api.ErrSize)
		}
		s = script(times(picks, 0), thread(t, ""))
		fulfils(t, s)
		for wish := range api.Wishes {
			unshrunk(t, s, wish, api.ErrSize)
		}
	}
}

// As many picks as may be, with the wish and without it.
func TestAsManyPicksAsMayBe(t *testing.T) {
	s := filled(commits(t), api.MaxShrink)
	needs(t, s, api.WishCommit, 0, 0, 1, 1)
	keeps(t, s, api.WishCommit, s.Threads...)
	for wish := range api.WishCommit {
		unshrunk(t, s, wish, api.ErrWish)
	}
	s = script(times(api.MaxShrink, 0), thread(t, ""))
	for wish := range api.Wishes {
		unshrunk(t, s, wish, api.ErrWish)
	}
}

// A run without the wish: Has says so, and there is nothing to shrink (the chapter's example 1).
func TestRunWithoutTheWish(t *testing.T) {
	s := script(nil, thread(t, ""))
	fulfils(t, s)
	if is, e := shrink.Has(s, api.WishStale); is || e != api.OK {
		t.Errorf("Has = %v, %d", is, e)
	}
	if picks, e := shrink.Picks(s, api.WishStale); picks != nil || e != api.ErrWish {
		t.Errorf("Picks = %v, %d", picks, e)
	}
	for _, wish := range []int{6, -1} {
		if is, e := shrink.Has(s, wish); is || e != api.ErrWish {
			t.Errorf("Has(%d) = %v, %d", wish, is, e)
		}
	}
	for _, s := range []machine.Script{
		s, script(nil, nil), script(list(0, 40), nil), script(list(0, 40), thread(t, "", "", "")), script(list(0, 10, 1, 1), thread(t, ""), thread(t, "")),
	} {
		fulfils(t, s)
		for wish := range api.Wishes {
			unshrunk(t, s, wish, api.ErrWish)
		}
	}
}
