package linear

import (
	"cmp"
	"maps"
	"slices"

	"braid/api"
)

// mayBe tells whether a call may be, by itself.
func mayBe(c api.Call) bool {
	if c.Kind < api.JobInsert || c.Kind > api.JobMove || c.From < 0 {
		return false
	}
	if c.Point == none {
		return c.To == none
	}
	return c.Point > c.From && (c.To == none || c.To > c.Point)
}

func answered(c api.Call) bool { return c.To != none }

// ordered tells the places of the calls that have a Point, in the order of their Points; ErrCall: the list may not be.
func ordered(calls []api.Call) ([]int, api.Errno) {
	var places []int
	for place, c := range calls {
		if !mayBe(c) {
			return nil, api.ErrCall
		}
		if c.Point != none {
			places = append(places, place)
		}
	}
	slices.SortFunc(places, func(a, b int) int { return cmp.Compare(calls[a].Point, calls[b].Point) })
	for i := 1; i < len(places); i++ {
		if calls[places[i-1]].Point == calls[places[i]].Point {
			return nil, api.ErrCall
		}
	}
	return places, api.OK
}

// firstLine tells the first line of calls that may be, in the order of a dictionary, and whether there is one. The least
// place is tried first, and a line that may end is not made longer, so the first one that is found is the first of all.
func firstLine(calls []api.Call) ([]int, bool) {
	var line []int
	var search func(now set) bool
	search = func(now set) bool {
		if complete(calls, line) {
			return true
		}
		found := false
	walk:
		for place, c := range calls {
			if slices.Contains(line, place) {
				continue walk
			}
			for ahead, a := range calls {
				if answered(a) && a.To < c.From && !slices.Contains(line, ahead) {
					continue walk
				}
			}
			then := maps.Clone(now)
			if !then.goesOn(c) {
				continue walk
			}
			line = append(line, place)
			if found = search(then); found {
				break walk
			}
			line = line[:len(line)-1]
		}
		return found
	}
	if !search(set{}) {
		return nil, false
	}
	return line, true
}

// complete tells whether every call that has answered stands in a line.
func complete(calls []api.Call, line []int) bool {
	for place, c := range calls {
		if answered(c) && !slices.Contains(line, place) {
			return false
		}
	}
	return true
}
