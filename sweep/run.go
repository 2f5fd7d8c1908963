package sweep

import (
	"slices"

	"braid/api"
	"braid/judge"
	"braid/machine"
)

// howMany counts the lists of depth picks (18.1). Six threads at the greatest depth are far from an int's end.
func howMany(threads, depth int) int {
	n := 1
	for range depth {
		n *= threads
	}
	return n
}

// list gives the n-th list of depth picks (18.1): in their order they are 0, 1, .. written to the base of how many threads
// there are.
func list(n, threads, depth int) []int64 {
	picks := make([]int64, depth)
	for i := depth - 1; i >= 0; i-- {
		picks[i] = int64(n % threads)
		n /= threads
	}
	return picks
}

// tried is the tally of one run: the script's, with some picks laid behind its own (18.2). The script may be, and so many
// picks too: the machine refuses nothing.
func tried(s machine.Script, behind []int64) api.Tally {
	s.Picks = slices.Concat(s.Picks, behind)
	r, _ := machine.Run(s)
	t := counted(r)
	t.Worst = behind
	if bad(s, r) {
		t.Bad = 1
	}
	return t
}

func counted(r machine.Result) api.Tally {
	t := api.Tally{Runs: 1}
	for _, row := range r.Rows {
		if row.End == api.EndCommit {
			t.Commits++
		}
		if row.Kind == api.RowAgain {
			t.Retries++
		}
		if row.Timeout {
			t.Timeouts++
		}
	}
	for _, answers := range r.Answers {
		for _, a := range answers {
			if a.Outcome == api.EndNone {
				t.Unfinished++
			}
		}
	}
	t.Most = t.Retries
	return t
}

// bad tells whether a run is not serial or not opaque. What a judge refuses has the zero Finding, which is not Good.
func bad(s machine.Script, r machine.Result) bool {
	first, _ := machine.First(s)
	serial, _ := judge.Serial(s, r)
	opaque, _ := judge.Opaque(first, r.Rows)
	return !serial.Good || !opaque.Good
}
