package linear_test

import (
	"slices"
	"testing"

	"braid/api"
)

// A line is as short as it can be from its beginning on: one that has not answered stands in it where it must, or where
// its place comes ahead of another's.
func TestUnanswered(t *testing.T) {
	silent := insert(5, false, 0, -1, -1)
	lines(t, list(silent))
	lines(t, list(silent, silent, silent))
	// what needs it
	lines(t, list(silent, contains(5, true, 4, 6, 8)), 0, 1)
	lines(t, list(contains(5, true, 4, 6, 8), silent), 1, 0)
	lines(t, list(contains(5, true, 4, 6, 8), remove(5, false, 0, -1, -1), silent), 1, 2, 0)
	lines(t, list(contains(5, true, 4, 6, 8), silent, remove(5, false, 0, -1, -1)), 1, 0)
	// what it would spoil
	lines(t, list(silent, contains(5, false, 4, 6, 8)), 1)
	lines(t, list(contains(5, false, 4, 6, 8), silent), 0)
	// what leaves it free: it stands in the line just if its place comes first
	lines(t, list(silent, contains(7, false, 4, 6, 8)), 0, 1)
	lines(t, list(contains(7, false, 4, 6, 8), silent), 0)
	lines(t, list(contains(7, false, 4, 6, 8), silent, contains(8, false, 5, 7, 9)), 0, 1, 2)
	// two of a kind: one of them is needed, one must stay away
	lines(t, list(silent, silent, size(1, 4, 6, 8)), 0, 1, 2)
	lines(t, list(silent, insert(6, false, 0, -1, -1), size(1, 4, 6, 8)), 0, 2)
	lines(t, list(insert(6, false, 0, -1, -1), silent, size(1, 4, 6, 8), contains(5, true, 4, 7, 9)), 0, 2, 1, 3)
	lines(t, list(insert(6, false, 0, -1, -1), silent, size(1, 4, 6, 8), contains(6, false, 9, 10, 11), contains(5, true, 9, 12, 13)), 1, 2, 3, 0, 4)
	lines(t, list(insert(6, false, 0, -1, -1), silent, size(1, 4, 6, 8), contains(6, false, 12, 13, 14), contains(5, true, 9, 10, 11)), 1, 2, 4, 3)
	// each kind has its effect without an answer
	in := insert(5, true, 0, 1, 2)
	lines(t, list(in, remove(5, false, 0, -1, -1), contains(5, false, 3, 4, 5)), 0, 1, 2)
	lines(t, list(in, least(false, 0, 0, -1, -1), contains(5, false, 3, 4, 5)), 0, 1, 2)
	lines(t, list(in, move(5, 8, false, 0, -1, -1), contains(8, true, 3, 4, 5)), 0, 1, 2)
	noLine(t, list(in, contains(5, false, 0, -1, -1), size(0, 0, -1, -1), contains(5, false, 3, 4, 5)))
}

// One that has committed and not answered is one that has not answered: its Point is not looked at.
func TestPointsAreNotLookedAt(t *testing.T) {
	lines(t, list(insert(5, false, 0, 3, -1), contains(5, false, 1, 7, 8)), 1)
	lines(t, list(contains(5, false, 1, 7, 8), insert(5, false, 0, 3, -1)), 0)
	lines(t, list(contains(5, true, 1, 2, 8), insert(5, false, 0, 3, -1)), 1, 0)
	lines(t, list(insert(5, true, 0, 3, 9), contains(5, true, 1, 2, 8)), 0, 1)
	lines(t, list(contains(5, true, 1, 2, 8), insert(5, true, 0, 3, 9)), 1, 0)
}

// Calls that overlap may stand in either order; of those that do not, the earlier one stands ahead.
func TestTime(t *testing.T) {
	for _, c := range []struct {
		to, from int
		free     bool
	}{{6, 5, true}, {6, 6, true}, {6, 7, false}, {6, 0, true}, {6, 100, false}, {50, 7, true}} {
		a, b := insert(5, true, 2, 3, c.to), contains(5, false, c.from, c.from+1, c.from+2)
		if c.free {
			lines(t, list(a, b), 1, 0)
			lines(t, list(b, a), 0, 1)
		} else {
			noLine(t, list(a, b))
			noLine(t, list(b, a))
		}
		b.Yes = true // and the other way round nothing is in the way
		lines(t, list(a, b), 0, 1)
		lines(t, list(b, a), 1, 0)
		b.Yes, b.Point, b.To = false, -1, -1 // one without an answer need not stand
		lines(t, list(a, b), 0)
		a.Point, a.To = -1, -1 // and nobody has to stand behind it
		b = contains(5, false, c.from, c.from+1, c.from+2)
		lines(t, list(b, a), 0)
		lines(t, list(a, b), 1)
	}
	// one without an answer stands behind those that had answered ahead of it
	lines(t, list(contains(5, true, 0, 1, 6), insert(5, false, 6, -1, -1)), 1, 0)
	noLine(t, list(contains(5, true, 0, 1, 6), insert(5, false, 7, -1, -1)))
	lines(t, list(remove(9, false, 3, -1, -1), contains(1, false, 0, 1, 2)), 1)
	lines(t, list(remove(9, false, 2, -1, -1), contains(1, false, 0, 1, 2)), 0, 1)
	// three in a row, of which the first and the last do not meet
	lines(t, list(contains(5, true, 8, 9, 10), contains(5, false, 2, 4, 8), insert(5, true, 0, 1, 2)), 1, 2, 0)
	noLine(t, list(contains(5, true, 8, 9, 10), contains(5, false, 3, 4, 8), insert(5, true, 0, 1, 2)))
}

// Of several lines the first one of a dictionary.
func TestTheFirstLine(t *testing.T) {
	free := list(contains(1, false, 0, 1, 9), contains(2, false, 0, 2, 9), contains(3, false, 0, 3, 9))
	permute(free, func(calls []api.Call) { lines(t, calls, 0, 1, 2) })
	// whose answers leave just some orders
	lines(t, list(remove(5, true, 0, 1, 9), contains(1, false, 0, 2, 9), insert(5, true, 0, 3, 9)), 1, 2, 0)
	lines(t, list(remove(5, true, 0, 1, 9), insert(5, true, 0, 3, 9), contains(1, false, 0, 2, 9)), 1, 0, 2)
	lines(t, list(remove(5, false, 0, 1, 9), insert(5, true, 0, 3, 9), contains(5, true, 0, 2, 9)), 0, 1, 2)
	lines(t, list(insert(5, true, 0, 3, 9), remove(5, false, 0, 1, 9), contains(5, true, 0, 2, 9)), 1, 0, 2)
	lines(t, list(contains(5, true, 0, 2, 9), insert(5, true, 0, 3, 9), remove(5, false, 0, 1, 9)), 2, 1, 0)
	// the walk comes back more than one place
	lines(t, list(insert(1, true, 0, 1, 9), insert(2, true, 0, 2, 9), size(0, 0, 3, 9)), 2, 0, 1)
	lines(t, list(insert(1, true, 0, 1, 9), insert(2, true, 0, 2, 9), size(1, 0, 3, 9)), 0, 2, 1)
	noLine(t, list(insert(1, true, 0, 1, 9), insert(2, true, 0, 2, 9), size(1, 0, 3, 9), contains(1, false, 20, 21, 22)))
}

// Answers that no set gives, in whatever order.
func TestNoLine(t *testing.T) {
	for _, wrong := range list(
		contains(5, true, 0, 90, 91), remove(5, true, 0, 90, 91), least(true, 5, 0, 90, 91), least(false, 1, 0, 90, 91),
		size(1, 0, 90, 91), size(-1, 0, 90, 91), move(5, 6, true, 0, 90, 91), insert(5, false, 0, 90, 91),
		otherwise(insert(5, true, 0, 90, 91), func(c *api.Call) { c.Result = 1 }),
		otherwise(size(0, 0, 90, 91), func(c *api.Call) { c.Yes = false }),
	) {
		noLine(t, list(wrong))
		for place := range 8 {
			calls := slices.Repeat(list(contains(1, false, 0, -1, -1)), 7)
			for i := range calls {
				calls[i].Point, calls[i].To = 1+i, 50
			}
			noLine(t, slices.Insert(calls, place, wrong))
		}
	}
}

// Two halves of a move are never seen by themselves.
func TestMoveIsOne(t *testing.T) {
	in, goes := insert(5, true, 0, 1, 2), move(5, 6, true, 3, 8, 20)
	lines(t, list(in, goes, contains(5, true, 4, 5, 7), contains(6, false, 8, 9, 10), contains(6, true, 11, 12, 13)), 0, 2, 3, 1, 4)
	noLine(t, list(in, goes, contains(5, false, 4, 5, 7), contains(6, false, 8, 9, 10)))
	noLine(t, list(in, goes, contains(6, true, 4, 5, 7), contains(5, true, 8, 9, 10)))
	for _, n := range []int64{0, 2} {
		noLine(t, list(in, goes, size(n, 3, 4, 20)))
	}
	lines(t, list(in, goes, size(1, 3, 4, 20)), 0, 1, 2)
}

// Eight calls of which all meet: every order may have to be tried.
func TestEightThatMeet(t *testing.T) {
	var calls []api.Call
	for i := range int64(7) {
		calls = append(calls, move(7-i, 6-i, true, 0, int(1+i), 50))
	}
	calls = append(calls, insert(7, true, 0, 40, 50))
	lines(t, calls, 7, 0, 1, 2, 3, 4, 5, 6)
	slices.Reverse(calls)
	lines(t, calls, 0, 7, 6, 5, 4, 3, 2, 1)
	calls[0].Key = 8
	noLine(t, calls)
	for i := range calls {
		calls[i].Point, calls[i].To = -1, -1
	}
	calls[0].Key = 7
	lines(t, calls)
	calls[4] = contains(0, true, 10, 45, 50) // all the moves but one, which is missing now
	noLine(t, calls)
}
