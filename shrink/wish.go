package shrink

import (
	"slices"

	"braid/api"
	"braid/machine"
)

// A wish's number is its place, here and in asked: so many threads have to show a row that is asked for.
var shown = [...]int{
	api.WishStale:   1,
	api.WishKilled:  1,
	api.WishTimeout: 1,
	api.WishLost:    1,
	api.WishWait:    1,
	api.WishCommit:  2,
}

// asked gives what a wish asks of a row.
func asked(wish int) func(r api.Row) bool {
	wishes := [...]func(r api.Row) bool{
		api.WishStale:   func(r api.Row) bool { return r.End == api.EndStale },
		api.WishKilled:  func(r api.Row) bool { return r.End == api.EndKilled },
		api.WishTimeout: func(r api.Row) bool { return r.Timeout },
		api.WishLost:    func(r api.Row) bool { return r.Kind == api.RowAcquire && !r.Done },
		api.WishWait:    func(r api.Row) bool { return r.Kind == api.RowWait },
		api.WishCommit:  func(r api.Row) bool { return r.End == api.EndCommit },
	}
	return wishes[wish]
}

// has tells whether a script's run has a wish. The script may be, and so may one with less in it: the machine refuses
// nothing.
func has(s machine.Script, wish int) bool {
	r, _ := machine.Run(s)
	is := asked(wish)
	var threads []int
	for _, row := range r.Rows {
		if is(row) && !slices.Contains(threads, row.Thread) {
			threads = append(threads, row.Thread)
		}
	}
	return len(threads) >= shown[wish]
}
