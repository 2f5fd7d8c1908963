package judge

import (
	"sync"

	"braid/api"
)

// divide gives each attempt the rows that bear its number. Those that are no rows of the attempt itself (the one with
// which it begins, a RowReturn) tell, put and release nothing.
func divide(rows []api.Row, attempts int) [][]api.Row {
	own := make([][]api.Row, attempts)
	for _, r := range rows {
		if r.Kind != api.RowStutter {
			own[r.Attempt-1] = append(own[r.Attempt-1], r)
		}
	}
	return own
}

// sideBySide lets a worker for each attempt do its work. What they answer stands in the attempts' order, whoever was
// done first.
func sideBySide[T any](attempts int, work func(place int) T) []T {
	answers := make([]T, attempts)
	var workers sync.WaitGroup
	for place := range attempts {
		workers.Add(1)
		go func() {
			defer workers.Done()
			answers[place] = work(place)
		}()
	}
	workers.Wait()
	return answers
}
