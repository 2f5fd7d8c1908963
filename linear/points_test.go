package linear_test

import (
	"slices"
	"testing"

	"braid/api"
)

// The chapter's examples 1 to 7.
func TestTheChapter(t *testing.T) {
	one := list(insert(5, true, 0, 3, 6), contains(5, false, 1, 2, 9))
	points(t, one, -1)
	lines(t, one, 1, 0)
	keys(t, one, 5)

	two := list(insert(5, true, 0, 3, 4), contains(5, false, 5, 7, 9))
	points(t, two, 1)
	noLine(t, two)

	three := list(insert(5, true, 0, 3, 6), insert(5, true, 1, 4, 7))
	points(t, three, 1)
	noLine(t, three)

	four := list(insert(5, false, 0, 3, -1), contains(5, true, 4, 6, 8))
	points(t, four, -1)
	lines(t, four, 0, 1)
	keys(t, four, 5)
	four[0].Point = -1
	points(t, four, 1)
	lines(t, four, 0, 1)
	keys(t, four)

	five := list(contains(1, false, 0, 1, 2))
	lines(t, five, 0)
	lines(t, append(five, remove(9, false, 3, -1, -1)), 0)

	refused(t, list(api.Call{Kind: 0, Point: 1, To: 2}), api.ErrCall)
	refused(t, list(api.Call{Kind: 7, Point: 1, To: 2}), api.ErrCall)
	refused(t, list(contains(1, false, 5, 5, 7)), api.ErrCall)
	refused(t, list(contains(1, false, 0, -1, 4)), api.ErrCall)
	refused(t, list(contains(1, false, 0, 3, 4), contains(1, false, 1, 3, 5)), api.ErrCall)
	points(t, list(contains(1, false, 0, -1, -1), contains(1, false, 1, -1, -1)), -1)
	nine := slices.Repeat(list(contains(1, false, 0, -1, -1)), 9)
	nine[5].Kind = 7
	refused(t, nine, api.ErrCalls)

	seven := list(insert(5, true, 0, 1, 2), insert(3, true, 0, 3, 4), least(true, 3, 0, 5, 6), move(5, 9, true, 0, 7, 8), size(1, 0, 9, 10))
	points(t, seven, -1)
	keys(t, seven, 9)
	lines(t, seven, 0, 1, 2, 3, 4)
	seven[2].Result = 5
	points(t, seven, 2)
	noLine(t, seven)
}

// Nothing in, nothing wrong.
func TestNoCalls(t *testing.T) {
	for _, none := range [][]api.Call{nil, {}, make([]api.Call, 0, 5)} {
		points(t, none, -1)
		keys(t, none)
		lines(t, none)
	}
}

// Where several break, the first of them by its Point is told, wherever it stands in the list.
func TestTheFirstThatBreaks(t *testing.T) {
	calls := list(contains(1, true, 0, 30, 40), contains(2, true, 0, 10, 50), contains(3, false, 0, 5, 60), contains(4, true, 0, 20, 70))
	points(t, calls, 1)
	calls[1].Yes = false
	points(t, calls, 3)
	calls[3].Yes = false
	points(t, calls, 0)
	calls[0].Yes = false
	points(t, calls, -1)
	calls[2].Result = 1
	points(t, calls, 2)
	calls[1].Yes = true
	points(t, calls, 2)
	calls[2].To = -1
	points(t, calls, 1)
}

// The Point says whose turn it is, not the list, nor From and To.
func TestByPointsAlone(t *testing.T) {
	early := list(contains(5, false, 7, 8, 9), insert(5, true, 0, 20, 21))
	points(t, early, -1)
	points(t, list(early[1], early[0]), -1)
	late := list(contains(5, false, 7, 28, 29), insert(5, true, 0, 20, 21))
	points(t, late, 0)
	points(t, list(late[1], late[0]), 1)
	late[0].Yes = true
	points(t, late, -1)
	points(t, list(insert(5, true, 0, 100, 101), insert(5, false, 90, 200, 300)), -1)
	points(t, list(insert(5, false, 0, 200, 201), insert(5, true, 90, 100, 300)), -1)
	points(t, list(insert(5, true, 0, 200, 201), insert(5, false, 90, 100, 300)), 1)
}

// A call without an answer has its effect by its Point, whatever its Yes and Result say; one without a Point has none.
func TestCallsWithoutAnAnswer(t *testing.T) {
	for _, yes := range []bool{false, true} {
		for _, result := range []int64{0, 1, -7} {
			silent := otherwise(insert(5, yes, 0, 3, -1), func(c *api.Call) { c.Result = result })
			points(t, list(silent, contains(5, true, 1, 4, 5)), -1)
			points(t, list(silent, contains(5, false, 1, 4, 5)), 1)
			points(t, list(silent, contains(5, false, 1, 2, 5)), -1)
			points(t, list(silent, contains(5, true, 1, 2, 5)), 1)
			keys(t, list(silent), 5)
			silent.Point = -1
			points(t, list(silent, contains(5, true, 1, 4, 5)), 1)
			points(t, list(silent, contains(5, false, 1, 4, 5)), -1)
			keys(t, list(silent))
		}
	}
	all := list(insert(8, false, 0, 1, -1), insert(3, false, 0, 2, -1), least(false, 0, 0, 4, -1), move(8, 2, false, 0, 6, -1), remove(5, false, 0, 8, -1))
	keys(t, all, 2)
	points(t, append(slices.Clone(all), size(2, 0, 3, 99)), -1)
	points(t, append(slices.Clone(all), size(1, 0, 5, 99)), -1)
	points(t, append(slices.Clone(all), contains(2, true, 0, 7, 99)), -1)
	points(t, append(slices.Clone(all), contains(3, false, 0, 7, 99)), -1)
	points(t, append(slices.Clone(all), contains(3, true, 0, 7, 99)), 5)
}

// Keys rise, each is told once, and a move's other one too.
func TestKeys(t *testing.T) {
	keys(t, list(insert(9, true, 0, 1, 2), insert(-4, true, 0, 3, 4), insert(0, true, 0, 5, 6), insert(9, true, 0, 7, 8), insert(-4, false, 0, 9, 10)), -4, 0, 9)
	keys(t, list(insert(9, true, 0, 1, 2), move(9, 1, true, 0, 3, 4), insert(9, true, 0, 5, 6), move(9, 1, false, 0, 7, 8)), 1, 9)
	keys(t, list(insert(9, true, 0, 1, 2), move(9, -3, true, 0, 3, 4), move(-3, 9, true, 0, 5, 6), move(9, 9, false, 0, 7, 8), move(9, -3, true, 0, 9, 10)), -3)
	keys(t, list(move(9, -3, true, 0, 3, 4), insert(9, true, 0, 5, 6)), 9)
	keys(t, list(insert(9, true, 0, 5, 6), move(9, -3, true, 0, 7, 8)), -3)
	keys(t, list(move(9, -3, true, 0, 7, 8), insert(9, true, 0, 5, 6)), -3) // the order of the list is not that of the Points
	var many []api.Call
	var want []int64
	for i := range 2000 {
		many = append(many, insert(int64((i*773)%2000), true, 0, 1+i, 5000))
		want = append(want, int64(i))
	}
	keys(t, many, want...)
	points(t, many, -1)
}
