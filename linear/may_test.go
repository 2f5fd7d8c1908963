package linear_test

import (
	"math"
	"slices"
	"testing"

	"braid/api"
	"braid/linear"
)

// three are calls that may be, of which the first one has committed and not answered, the second one not committed.
func three() []api.Call {
	return list(insert(5, false, 0, 3, -1), remove(5, false, 2, -1, -1), contains(5, true, 4, 6, 8))
}

// Each condition of a call, broken alone, at each place of the list.
func TestCallsThatMayNotBe(t *testing.T) {
	good := contains(1, false, 10, 20, 30)
	for what, change := range map[string]func(*api.Call){
		"kind 0":                   func(c *api.Call) { c.Kind = 0 },
		"kind 7":                   func(c *api.Call) { c.Kind = 7 },
		"kind -1":                  func(c *api.Call) { c.Kind = -1 },
		"the greatest kind":        func(c *api.Call) { c.Kind = math.MaxInt },
		"the least kind":           func(c *api.Call) { c.Kind = math.MinInt },
		"from -1":                  func(c *api.Call) { c.From = -1 },
		"from the least":           func(c *api.Call) { c.From = math.MinInt },
		"from -1, nothing behind":  func(c *api.Call) { c.From, c.Point, c.To = -1, -1, -1 },
		"from -2, nothing behind":  func(c *api.Call) { c.From, c.Point, c.To = -2, -1, -1 },
		"from -3 and a point of 0": func(c *api.Call) { c.From, c.Point = -3, 0 },
		"a point of -2":            func(c *api.Call) { c.Point = -2 },
		"a point of -2, no answer": func(c *api.Call) { c.Point, c.To = -2, -1 },
		"the least point":          func(c *api.Call) { c.Point, c.To = math.MinInt, -1 },
		"a point of From":          func(c *api.Call) { c.Point = 10 },
		"a point below From":       func(c *api.Call) { c.Point = 9 },
		"a point of 0":             func(c *api.Call) { c.Point = 0 },
		"a point of From, no To":   func(c *api.Call) { c.Point, c.To = 10, -1 },
		"To without a point":       func(c *api.Call) { c.Point = -1 },
		"To 0 without a point":     func(c *api.Call) { c.Point, c.To = -1, 0 },
		"To of the point":          func(c *api.Call) { c.To = 20 },
		"To below the point":       func(c *api.Call) { c.To = 19 },
		"To of From":               func(c *api.Call) { c.To = 10 },
		"To 0":                     func(c *api.Call) { c.To = 0 },
		"To -2":                    func(c *api.Call) { c.To = -2 },
		"To -2 without a point":    func(c *api.Call) { c.Point, c.To = -1, -2 },
		"To the least":             func(c *api.Call) { c.To = math.MinInt },
	} {
		t.Run(what, func(t *testing.T) {
			bad := otherwise(good, change)
			refused(t, list(bad), api.ErrCall)
			for place := range 4 {
				refused(t, slices.Insert(three(), place, bad), api.ErrCall)
			}
			refused(t, list(bad, bad), api.ErrCall)
		})
	}
}

// What is just within the bounds, and what nobody looks at.
func TestCallsThatMayBe(t *testing.T) {
	const most = math.MaxInt
	for _, c := range list(
		contains(1, false, 0, 1, 2), contains(1, false, 0, -1, -1), contains(1, false, 0, 1, -1),
		contains(1, false, most-2, most-1, most), contains(1, false, most-1, most, -1), contains(1, false, most, -1, -1),
		contains(1, false, 0, 1, most), contains(1, false, 0, most-1, most),
	) {
		points(t, list(c), -1)
		keys(t, list(c))
		if c.To == -1 {
			lines(t, list(c))
		} else {
			lines(t, list(c), 0)
		}
	}
	for kind := api.JobInsert; kind < api.JobKinds; kind++ {
		c := api.Call{Kind: kind, From: 4, Point: -1, To: -1, Yes: true, Result: 9, Key: 1, Other: 2}
		points(t, list(c), -1)
		keys(t, list(c))
		lines(t, list(c))
	}
}

// Two calls with one point, beside each other or not, in whichever order; other steps may be the same.
func TestTwoPoints(t *testing.T) {
	a, b := contains(5, false, 0, 3, 9), contains(6, false, 1, 3, 7)
	refused(t, list(a, b), api.ErrCall)
	refused(t, list(b, a), api.ErrCall)
	refused(t, list(a, a), api.ErrCall)
	b.To = -1
	refused(t, list(a, b), api.ErrCall)
	between := list(contains(1, false, 0, 1, 2), contains(2, false, 0, 8, 12), contains(3, false, 6, -1, -1))
	for i := range 4 {
		for k := range 5 {
			refused(t, slices.Insert(slices.Insert(slices.Clone(between), i, a), k, b), api.ErrCall)
		}
	}
	b.Point = 4
	points(t, list(a, b), -1)
	b.Point = 2
	points(t, list(a, b), -1)
	none := contains(1, false, 0, -1, -1)
	points(t, list(none, none, none), -1)
	lines(t, list(none, none, none))
	keys(t, list(none, none, none))
	// the same From and To, and steps of one call that are another's point
	points(t, list(contains(1, false, 0, 1, 6), contains(1, false, 0, 2, 6), contains(1, false, 1, 6, 7)), -1)
}

// Lists in any order.
func TestAnyOrder(t *testing.T) {
	calls := list(insert(5, true, 0, 3, 4), insert(3, true, 1, 2, 9), least(true, 3, 5, 6, 7), remove(5, false, 8, -1, -1))
	permute(calls, func(other []api.Call) {
		points(t, other, -1)
		keys(t, other, 5)
		bad := slices.Clone(other)
		bad[2].From = -1
		refused(t, bad, api.ErrCall)
	})
}

// permute hands on the calls in every order.
func permute(calls []api.Call, do func([]api.Call)) {
	var rest func(ahead, left []api.Call)
	rest = func(ahead, left []api.Call) {
		if len(left) == 0 {
			do(ahead)
		}
		for i := range left {
			rest(append(slices.Clone(ahead), left[i]), slices.Delete(slices.Clone(left), i, i+1))
		}
	}
	rest(nil, calls)
}

// Eight calls and nine: Search looks how many there are ahead of all else.
func TestHowMany(t *testing.T) {
	var calls []api.Call
	for i := range 9 {
		calls = append(calls, contains(1, false, 0, 1+i, 20))
	}
	eight := calls[:8]
	points(t, eight, -1)
	lines(t, eight, 0, 1, 2, 3, 4, 5, 6, 7)
	bad := swapped(eight, 7, api.Call{Kind: 7, Point: -1, To: -1})
	refused(t, bad, api.ErrCall)

	points(t, calls, -1)
	keys(t, calls)
	for _, nine := range [][]api.Call{calls, slices.Repeat(list(contains(1, false, 0, -1, -1)), 9), slices.Repeat(calls[:1], 5000)} {
		if got, found, e := linear.Search(nine); got != nil || found || e != api.ErrCalls {
			t.Errorf("Search of %d = %v, %v, %d", len(nine), got, found, e)
		}
	}
	for place := range 9 {
		refused(t, swapped(calls, place, api.Call{Kind: 7, Point: -1, To: -1}), api.ErrCalls)
		refused(t, swapped(calls, place, contains(1, false, 0, 1+(place+1)%9, 20)), api.ErrCalls)
	}
}
