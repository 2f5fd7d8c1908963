package history_test

import (
	"slices"
	"testing"

	"braid/api"
	"braid/fixture"
	"braid/history"
)

// R3: no call changes what it is given.
func TestHandedIn(t *testing.T) {
	rows, first := story(), fixture.Numbers(0, 1, 2, 3, 4)
	wrong := story()
	wrong[20].Try = 9
	wrongToo := slices.Clone(wrong)
	for step := -2; step <= len(rows); step++ {
		for _, list := range [][]api.Row{rows, wrong} {
			history.Check(list)
			history.Txs(list)
			history.At(first, list, step)
			history.Oldest(list, step)
			history.Outcomes(list)
		}
	}
	if !slices.Equal(rows, story()) || !slices.Equal(wrong, wrongToo) || !slices.Equal(first, fixture.Numbers(0, 1, 2, 3, 4)) {
		t.Error("a list that was handed in was changed")
	}
}

// R3: what is answered is new memory, its spare room too; no two lists of one answer share any.
func TestAnswersAreNew(t *testing.T) {
	want := plain(story()).txs()
	for i := range want {
		txs := txsOf(t, story())
		fixture.Full(txs[i].Saws, api.Saw{Step: 99})
		for k := range txs {
			if k != i && !slices.Equal(txs[k].Saws, want[k].Saws) || !slices.Equal(txs[k].Writes, want[k].Writes) {
				t.Fatalf("attempt %d's saws written over: %+v", i, txs[k])
			}
		}
		txs = txsOf(t, story())
		fixture.Full(txs[i].Writes, api.Wrote{Object: 99})
		for k := range txs {
			if k != i && !slices.Equal(txs[k].Writes, want[k].Writes) || !slices.Equal(txs[k].Saws, want[k].Saws) {
				t.Fatalf("attempt %d's writes written over: %+v", i, txs[k])
			}
		}
		fixture.Full(txs, api.Tx{Thread: 99})
		sameTxs(t, txsOf(t, story()), want)
	}
	fixture.Full(outcomes(t, story()), 99)
	sameSteps(t, outcomes(t, story()), 16, 22, 33, 40)
}

// R3: At's answer is none of first, whatever room first has behind it, and however often it is asked.
func TestValuesAreNew(t *testing.T) {
	rows, all := story(), fixture.Numbers(0, 1, 2, 3, 4, 5, 6)
	for n := range len(all) + 1 {
		for _, step := range []int{-1, 0, len(rows) - 1} {
			a, b := at(t, all[:n], rows, step), at(t, all[:n], rows, step)
			fixture.Full(a, api.Value{Num: 99})
			sameValues(t, b, plain(rows).at(all[:n], step))
			sameValues(t, all, fixture.Numbers(0, 1, 2, 3, 4, 5, 6))
			if len(b) > 0 {
				_ = append(b, api.Value{Num: 98})
			}
			sameValues(t, all, fixture.Numbers(0, 1, 2, 3, 4, 5, 6))
		}
	}
}

// R3: what was answered stays as it is when the caller writes over what it had handed in.
func TestNothingIsKept(t *testing.T) {
	rows, first := story(), fixture.Numbers(0, 1, 2, 3, 4)
	txs, values, steps := txsOf(t, rows), at(t, first, rows, 40), outcomes(t, rows)
	want, wanted := plain(rows).txs(), plain(rows).at(first, 40)
	fixture.Full(rows, with(stutter(), func(r *api.Row) { r.Step = 77 }))
	fixture.Full(first, api.Value{Num: 55})
	sameTxs(t, txs, want)
	sameValues(t, values, wanted)
	sameSteps(t, steps, 16, 22, 33, 40)
}

// R4: the same answer each time.
func TestTheSameAgain(t *testing.T) {
	for range 50 {
		sameTxs(t, txsOf(t, story()), plain(story()).txs())
	}
}
