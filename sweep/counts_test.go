package sweep_test

import (
	"math"
	"testing"

	"braid/api"
	"braid/fixture"
	"braid/machine"
)

// 18.2: what has committed is counted, whether it has answered or not.
func TestCommits(t *testing.T) {
	s := scripted(nil, []machine.Job{{}, {}}, nil)
	s.Picks = list(0, 0)
	tallies(t, s, 0, api.Tally{Runs: 1, Commits: 1, Unfinished: 2})
	s.Picks = list(0, 0, 0)
	tallies(t, s, 0, api.Tally{Runs: 1, Commits: 1, Unfinished: 1})
	s.Picks = list(0, 0, 0, 0)
	tallies(t, s, 1, api.Tally{Runs: 2, Commits: 3, Unfinished: 2, Worst: list(0)})
	s.Picks = list(0, 0, 0, 0, 0)
	tallies(t, s, 1, api.Tally{Runs: 2, Commits: 4, Unfinished: 1, Worst: list(0)})
}

// 18.2: what ends otherwise has not committed, but it has answered.
func TestOtherOutcomes(t *testing.T) {
	for _, text := range []string{"quit", "get r1 @0"} {
		s := scripted(nil, jobs(t, text))
		tallies(t, s, 2, api.Tally{Runs: 1, Unfinished: 1, Worst: list(0, 0)})
		tallies(t, s, 3, api.Tally{Runs: 1, Worst: list(0, 0, 0)})
	}
}

// 18.2: what has not begun has not answered; picks of nobody make no difference.
func TestUnfinished(t *testing.T) {
	s := scripted(nil, []machine.Job{{}, {}, {Kind: api.JobSize}}, nil, []machine.Job{{Kind: api.JobInsert, Key: 4}})
	tallies(t, s, 0, api.Tally{Runs: 1, Unfinished: 4})
	s.Picks = list(-1, 3, 99, 1, math.MinInt64, math.MaxInt64, 1<<32)
	tallies(t, s, 0, api.Tally{Runs: 1, Unfinished: 4})
	tallies(t, s, 1, api.Tally{Runs: 3, Unfinished: 12, Worst: list(0)})
	s = picked(empty(1), -1, 0, 7, 0, -1)
	tallies(t, s, 1, api.Tally{Runs: 1, Commits: 1, Worst: list(0)})
}

// DOC.md's example 2: thread 0 has returned at step 20, thread 1 begins again at 23 and returns at 43.
func TestRetries(t *testing.T) {
	s := adders(t)
	s.Picks = turns(2, 44)
	tallies(t, s, 0, api.Tally{Runs: 1, Commits: 2, Retries: 1, Most: 1})
	s.Picks = turns(2, 23)
	tallies(t, s, 0, api.Tally{Runs: 1, Commits: 1, Unfinished: 1})
	tallies(t, s, 1, api.Tally{Runs: 2, Commits: 2, Retries: 1, Unfinished: 2, Most: 1, Worst: list(1)})
	tallies(t, s, 2, api.Tally{Runs: 4, Commits: 4, Retries: 3, Unfinished: 4, Most: 1, Worst: list(0, 1)})
	s.Picks = turns(2, 22)
	tallies(t, s, 2, api.Tally{Runs: 4, Commits: 4, Retries: 3, Unfinished: 4, Most: 1, Worst: list(0, 1)})
	s.Picks = turns(2, 21) // the quit is still to come
	tallies(t, s, 2, api.Tally{Runs: 4, Commits: 4, Retries: 1, Unfinished: 4, Most: 1, Worst: list(1, 1)})
	s.Picks = turns(2, 24)
	tallies(t, s, 1, api.Tally{Runs: 2, Commits: 2, Retries: 2, Unfinished: 2, Most: 1, Worst: list(0)})
}

// DOC.md's example 4: both lose patience at 38 and 39, kill each other at 40 and 41, and begin again at 48 and 49.
func TestTimeouts(t *testing.T) {
	s := skewed(t)
	s.Picks = turns(2, 38)
	tallies(t, s, 0, api.Tally{Runs: 1, Unfinished: 2})
	tallies(t, s, 1, api.Tally{Runs: 2, Timeouts: 2, Unfinished: 4, Worst: list(0)})
	tallies(t, s, 2, api.Tally{Runs: 4, Timeouts: 6, Unfinished: 8, Worst: list(0, 0)})
	s.Picks = turns(2, 40)
	tallies(t, s, 0, api.Tally{Runs: 1, Timeouts: 2, Unfinished: 2})
	s.Picks = turns(2, 48)
	tallies(t, s, 1, api.Tally{Runs: 2, Timeouts: 4, Retries: 2, Unfinished: 4, Most: 1, Worst: list(0)})
	tallies(t, s, 2, api.Tally{Runs: 4, Timeouts: 8, Retries: 6, Unfinished: 8, Most: 2, Worst: list(0, 1)})
	s.Picks = turns(2, 50)
	tallies(t, s, 0, api.Tally{Runs: 1, Timeouts: 2, Retries: 2, Unfinished: 2, Most: 2})
}

// 18.3: Worst is the first of those with the most, not the first with any, nor the last.
func TestWorst(t *testing.T) {
	s := skewed(t)
	s.Picks = turns(2, 48)
	tallies(t, s, 3, api.Tally{Runs: 8, Timeouts: 16, Retries: 14, Unfinished: 16, Most: 2, Worst: list(0, 0, 1)})
	// a thread without jobs ahead of the two, then between them: its picks come to nothing, and so does its worker's part
	s.Threads = append([][]machine.Job{nil}, s.Threads...)
	for i := range s.Picks {
		s.Picks[i]++
	}
	got := swept(t, s, 4)
	if want := plain(t, s, 4); !same(got, want) || got.Most != 2 {
		t.Errorf("%+v, want %+v", got, want)
	}
	tallies(t, s, 1, api.Tally{Runs: 3, Timeouts: 6, Retries: 2, Unfinished: 6, Most: 1, Worst: list(1)})
	tallies(t, s, 2, api.Tally{Runs: 9, Timeouts: 18, Retries: 10, Unfinished: 18, Most: 2, Worst: list(1, 2)})
	s.Threads = [][]machine.Job{s.Threads[1], nil, s.Threads[2]}
	for i, p := range s.Picks {
		s.Picks[i] = 2 * (p - 1)
	}
	tallies(t, s, 2, api.Tally{Runs: 9, Timeouts: 18, Retries: 10, Unfinished: 18, Most: 2, Worst: list(0, 2)})
	s.Picks = append(s.Picks, 0) // thread 0 has begun again: thread 2 is to do so too
	tallies(t, s, 1, api.Tally{Runs: 3, Timeouts: 6, Retries: 4, Unfinished: 6, Most: 2, Worst: list(2)})
}

// Programs and calls of the set beside one another, under each manager, with draws.
func TestEachManager(t *testing.T) {
	t.Parallel()
	for manager := range api.Managers {
		timeouts, retries := 0, 0
		s := scripted([]int64{0, 0}, append(jobs(t, skew), machine.Job{Kind: api.JobInsert, Key: 4}),
			append([]machine.Job{{Kind: api.JobInsert, Key: 3}}, jobs(t, back, adds)...))
		s.Manager, s.Patience, s.Draws = manager, 3, list(5, -1, 77, 8)
		d := fixture.NewDice()
		for n := range 60 {
			s.Picks = fixture.Picks(&d, 2, 10+2*n)
			got := swept(t, s, 4)
			if want := plain(t, s, 4); !same(got, want) || got.Bad != 0 {
				t.Fatalf("manager %d: %+v, want %+v", manager, got, want)
			}
			timeouts += got.Timeouts
			retries += got.Retries
		}
		if retries == 0 || timeouts == 0 && manager != api.Oracle {
			t.Errorf("manager %d: %d retries, %d timeouts", manager, retries, timeouts)
		}
	}
}
