package progress

import (
	"maps"
	"slices"

	"braid/api"
)

// failed finds the attempts that failed in one walk along the rows, so that they come in the order of their ends. An
// attempt's number is one more than its place.
func failed(rows []api.Row, txs []api.Tx) []api.Failure {
	var list []api.Failure
	var outcomes []int        // the steps at which transactions reached theirs
	stamps := map[int]int64{} // of those that have begun and not reached it, by thread
	for _, r := range rows {
		if r.Kind == api.RowBegin {
			stamps[r.Thread] = r.Seen
		}
		switch r.End {
		case api.EndCommit, api.EndUser, api.EndBad:
			outcomes = append(outcomes, r.Step)
			delete(stamps, r.Thread)
		case api.EndStale, api.EndKilled:
			f := failure(r.Attempt-1, txs[r.Attempt-1])
			f.Oldest = f.Stamp == slices.Min(slices.Collect(maps.Values(stamps)))
			f.Others = since(outcomes, f.Begin)
			list = append(list, f)
		}
	}
	return list
}

func failure(place int, tx api.Tx) api.Failure {
	return api.Failure{
		Tx: place, Thread: tx.Thread, Job: tx.Job, Stamp: tx.Stamp,
		Begin: tx.Begin, End: tx.End, Why: tx.Outcome,
	}
}

// since counts the outcomes from a step on. From an attempt's begin to its end its thread does nothing else: all of them
// are those of others.
func since(outcomes []int, step int) int {
	ahead, _ := slices.BinarySearch(outcomes, step)
	return len(outcomes) - ahead
}
