package shrink_test

import (
	"slices"
	"strings"
	"testing"

	"braid/api"
	"braid/fixture"
	"braid/machine"
)

// reached tells the place of the row by which a wish is fulfilled, -1: none. It looks at the rows' texts.
func reached(rows []api.Row, wish int) int {
	for i, r := range rows {
		words := strings.Fields(fixture.Row(r))
		kind, says := words[1], func(word string) bool { return slices.Contains(words[2:], word) }
		found := false
		switch wish {
		case api.WishStale:
			found = says("stale")
		case api.WishKilled:
			found = says("killed")
		case api.WishTimeout:
			found = says("timeout")
		case api.WishLost:
			found = kind == "acquire" && says("lost")
		case api.WishWait:
			found = kind == "wait"
		case api.WishCommit:
			found = says("commit") && slices.ContainsFunc(rows[:i], func(o api.Row) bool { return o.End == r.End && o.Thread != r.Thread })
		}
		if found {
			return i
		}
	}
	return -1
}

func plainHas(t *testing.T, s machine.Script, wish int) bool {
	t.Helper()
	return reached(run(t, s), wish) >= 0
}

// plain marks the places that go, and tells how many rounds there were, the last one, in which none goes, among them.
func plain(size int, still func(gone []bool) bool) ([]bool, int) {
	gone := make([]bool, size)
	for rounds := 1; ; rounds++ {
		none := true
		for place := range gone {
			if gone[place] {
				continue
			}
			gone[place] = true
			if still(gone) {
				none = false
			} else {
				gone[place] = false
			}
		}
		if none {
			return gone, rounds
		}
	}
}

func plainPicks(t *testing.T, s machine.Script, wish int) ([]int64, int) {
	t.Helper()
	gone, rounds := plain(len(s.Picks), func(gone []bool) bool { return plainHas(t, withoutPicks(s, gone), wish) })
	return withoutPicks(s, gone).Picks, rounds
}

func withoutPicks(s machine.Script, gone []bool) machine.Script {
	var left []int64
	for i, pick := range s.Picks {
		if !gone[i] {
			left = append(left, pick)
		}
	}
	s.Picks = left
	return s
}

func plainJobs(t *testing.T, s machine.Script, wish int) ([][]machine.Job, int) {
	t.Helper()
	size := 0
	for _, jobs := range s.Threads {
		size += len(jobs)
	}
	gone, rounds := plain(size, func(gone []bool) bool { return plainHas(t, withoutJobs(s, gone), wish) })
	return withoutJobs(s, gone).Threads, rounds
}

func withoutJobs(s machine.Script, gone []bool) machine.Script {
	left := make([][]machine.Job, len(s.Threads))
	for p, jobs := range s.Threads {
		for _, j := range jobs {
			if !gone[0] {
				left[p] = append(left[p], j)
			}
			gone = gone[1:]
		}
	}
	s.Threads = left
	return s
}
