package machine_test

import (
	"slices"
	"testing"

	"braid/api"
	"braid/fixture"
)

// W6: each field of each row, and the values, the answers and the log behind each step, beside the plain run.
func TestSideBySide(t *testing.T) {
	t.Parallel()
	d := fixture.NewDice()
	all := fixture.Tally{Rows: map[[2]int]int{}}
	for n := range 1500 {
		s := fixture.Thrown(&d, n)
		m, w := fresh(t, s), newPlain(s)
		values(t, m.Values(), w.committed()...)
		for range s.Picks {
			want := w.takes()
			if got, more := m.Step(); got != want || !more {
				t.Fatalf("script %d: %q, %v, want %q", n, line(got), more, line(want))
			}
			values(t, m.Values(), w.committed()...)
			answers(t, m.Answers(), w.answers...)
			all.Rows[[2]int{want.Kind, want.End}]++
			all.Tries = max(all.Tries, want.Try)
		}
		w.ends()
		if !slices.Equal(m.Log(), w.log) {
			t.Fatalf("script %d: the logs differ", n)
		}
	}
	all.Full(t, []int{api.RowCommit, api.RowQuit},
		[2]int{api.RowCommit, api.EndCommit}, [2]int{api.RowCommit, api.EndKilled}, [2]int{api.RowMine, api.EndKilled},
		[2]int{api.RowQuit, api.EndUser}, [2]int{api.RowQuit, api.EndBad}, [2]int{api.RowQuit, api.EndStale}, [2]int{api.RowQuit, api.EndKilled})
}
