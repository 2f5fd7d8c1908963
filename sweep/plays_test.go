package sweep_test

import (
	"slices"
	"testing"

	"braid/api"
	"braid/fixture"
	"braid/machine"
)

// thrown gives the n-th of many scripts, and a depth to which it may be swept with so many lists at most.
func thrown(d *fixture.Dice, n, most int) (machine.Script, int) {
	s := fixture.Script(d, n%api.Managers, fixture.Pick(d, 0, 10, 30, 60, 120, api.MaxSweep))
	depth, lists := 0, len(s.Threads)
	for want := d.Below(api.MaxDepth + 1); depth < want && lists <= most; depth++ {
		lists *= len(s.Threads)
	}
	s.Picks = s.Picks[:min(len(s.Picks), api.MaxSweep-depth)]
	if d.Below(2) == 0 {
		s.Picks = s.Picks[:aheadOfAnother(d, s)]
	}
	return s, depth
}

// aheadOfAnother gives how many picks lead near to a step at which a further attempt begins, if there is one.
func aheadOfAnother(d *fixture.Dice, s machine.Script) int {
	r, _ := machine.Run(s)
	var steps []int
	for _, row := range r.Rows {
		if row.Kind == api.RowAgain {
			steps = append(steps, row.Step)
		}
	}
	if len(steps) == 0 {
		return len(s.Picks)
	}
	return max(0, fixture.Pick(d, steps...)-d.Below(4))
}

// 18.2, 18.3 and 18.6: the tallies of thrown scripts beside runs that are made one by one.
func TestThrownScripts(t *testing.T) {
	t.Parallel()
	d := fixture.NewDice()
	var sum api.Tally
	depths, late := map[int]int{}, 0
	for n := range 300 {
		s, depth := thrown(&d, n, 64)
		got := swept(t, s, depth)
		if want := plain(t, s, depth); !same(got, want) {
			t.Fatalf("script %d: Run(%d) = %+v, want %+v", n, depth, got, want)
		}
		if got.Bad != 0 {
			t.Fatalf("script %d: Run(%d) = %+v", n, depth, got)
		}
		depths[depth]++
		sum.Runs += got.Runs
		sum.Commits += got.Commits
		sum.Retries += got.Retries
		sum.Timeouts += got.Timeouts
		sum.Unfinished += got.Unfinished
		if slices.ContainsFunc(got.Worst, func(p int64) bool { return p != 0 }) {
			late++
		}
	}
	if sum.Runs < 3000 || sum.Commits < 5000 || sum.Retries < 1000 || sum.Timeouts < 100 || sum.Unfinished < 10000 || late < 20 {
		t.Errorf("%+v, and %d worst lists that are not the first", sum, late)
	}
	for depth := 0; depth <= api.MaxDepth; depth++ {
		if depths[depth] < 3 {
			t.Errorf("%d sweeps to the depth %d", depths[depth], depth)
		}
	}
}

// parts is what 18.5 makes of the sweeps one less deep.
func parts(t *testing.T, s machine.Script, depth int) api.Tally {
	t.Helper()
	var sum api.Tally
	for p := range s.Threads {
		part := s
		part.Picks = slices.Concat(s.Picks, list(int64(p)))
		got := swept(t, part, depth-1)
		sum.Runs += got.Runs
		sum.Commits += got.Commits
		sum.Retries += got.Retries
		sum.Timeouts += got.Timeouts
		sum.Unfinished += got.Unfinished
		sum.Bad += got.Bad
		if p == 0 || got.Most > sum.Most {
			sum.Most, sum.Worst = got.Most, slices.Concat(list(int64(p)), got.Worst)
		}
	}
	return sum
}

// 18.5 at every depth.
func TestParts(t *testing.T) {
	t.Parallel()
	d := fixture.NewDice()
	depths := map[int]int{}
	for n := range 300 {
		s, depth := thrown(&d, n, 64)
		for ; depth > 0; depth-- {
			tallies(t, s, depth, parts(t, s, depth))
			depths[depth]++
		}
	}
	for depth := 1; depth <= api.MaxDepth; depth++ {
		if depths[depth] < 5 {
			t.Errorf("%d sweeps to the depth %d", depths[depth], depth)
		}
	}
	s := skewed(t)
	for _, k := range []int{0, 30, 38, 46, 48} {
		s.Picks = turns(2, k)
		for depth := 1; depth <= api.MaxDepth; depth++ {
			tallies(t, s, depth, parts(t, s, depth))
		}
	}
}

// 18.6 of sweeps that are as wide, as deep and as long as may be.
func TestNeverBad(t *testing.T) {
	t.Parallel()
	d := fixture.NewDice()
	for n := range 40 {
		s, depth := thrown(&d, n, api.MaxRuns)
		if got := swept(t, s, depth); got.Bad != 0 {
			t.Fatalf("script %d: Run(%d) = %+v", n, depth, got)
		}
	}
	s := skewed(t)
	for manager := range api.Managers {
		s.Manager = manager
		s.Picks = turns(2, 22)
		got := swept(t, s, 8)
		if want := plain(t, s, 8); !same(got, want) || got.Bad != 0 || got.Runs != api.MaxRuns {
			t.Fatalf("manager %d: %+v, want %+v", manager, got, want)
		}
	}
}
