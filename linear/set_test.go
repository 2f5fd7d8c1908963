package linear_test

import (
	"math"
	"testing"

	"braid/api"
)

// behindInserts lays a call behind inserts of these keys, one behind the other.
func behindInserts(in []int64, c api.Call) []api.Call {
	var calls []api.Call
	for i, key := range in {
		calls = append(calls, insert(key, true, 3*i, 3*i+1, 3*i+2))
	}
	n := 3 * len(in)
	c.From, c.Point, c.To = n, n+1, n+2
	return append(calls, c)
}

func places(n int) []int {
	var all []int
	for i := range n {
		all = append(all, i)
	}
	return all
}

// The six kinds, each with each of its answers.
func TestAnswersOfASet(t *testing.T) {
	const lowest, highest = math.MinInt64, math.MaxInt64
	for _, c := range []struct {
		kind       int
		key, other int64
		in         []int64
		yes        bool
		result     int64
		then       []int64
	}{
		{api.JobInsert, 5, 77, nil, true, 0, []int64{5}},
		{api.JobInsert, 5, 5, []int64{7, 3}, true, 0, []int64{3, 5, 7}},
		{api.JobInsert, 5, 9, []int64{5}, false, 0, []int64{5}},
		{api.JobInsert, 0, 0, nil, true, 0, []int64{0}},
		{api.JobInsert, lowest, 0, []int64{highest}, true, 0, []int64{lowest, highest}},
		{api.JobInsert, highest, 0, []int64{highest, lowest}, false, 0, []int64{lowest, highest}},
		{api.JobRemove, 5, 3, []int64{5, 3}, true, 0, []int64{3}},
		{api.JobRemove, 4, 3, []int64{5, 3}, false, 0, []int64{3, 5}},
		{api.JobRemove, 4, 0, nil, false, 0, nil},
		{api.JobRemove, lowest, 0, []int64{lowest}, true, 0, nil},
		{api.JobContains, 5, 3, []int64{3, 5}, true, 0, []int64{3, 5}},
		{api.JobContains, 4, 3, []int64{3, 5}, false, 0, []int64{3, 5}},
		{api.JobContains, 0, 0, nil, false, 0, nil},
		{api.JobContains, 0, 0, []int64{0}, true, 0, []int64{0}},
		{api.JobLeast, 77, 78, nil, false, 0, nil},
		{api.JobLeast, 5, 3, []int64{5, -9, 3}, true, -9, []int64{3, 5}},
		{api.JobLeast, 5, 5, []int64{0, 5}, true, 0, []int64{5}},
		{api.JobLeast, 0, 0, []int64{highest}, true, highest, nil},
		{api.JobLeast, 0, 0, []int64{highest, lowest}, true, lowest, []int64{highest}},
		{api.JobSize, 3, 4, nil, true, 0, nil},
		{api.JobSize, 5, 9, []int64{5}, true, 1, []int64{5}},
		{api.JobSize, 0, 0, []int64{5, 2, -1, 9, 0, 8, 7}, true, 7, []int64{-1, 0, 2, 5, 7, 8, 9}},
		{api.JobMove, 5, 9, []int64{5}, true, 0, []int64{9}},
		{api.JobMove, 5, 2, []int64{3, 5, 7}, true, 0, []int64{2, 3, 7}},
		{api.JobMove, highest, lowest, []int64{highest}, true, 0, []int64{lowest}},
		{api.JobMove, 5, 5, []int64{5}, false, 0, []int64{5}},
		{api.JobMove, 5, 5, []int64{3}, false, 0, []int64{3}},
		{api.JobMove, 5, 3, []int64{3, 5}, false, 0, []int64{3, 5}},
		{api.JobMove, 4, 9, []int64{3, 5}, false, 0, []int64{3, 5}},
		{api.JobMove, 4, 3, []int64{3, 5}, false, 0, []int64{3, 5}},
		{api.JobMove, 4, 9, nil, false, 0, nil},
	} {
		call := api.Call{Kind: c.kind, Key: c.key, Other: c.other, Yes: c.yes, Result: c.result}
		right := behindInserts(c.in, call)
		at := len(c.in)
		points(t, right, -1)
		lines(t, right, places(at+1)...)
		keys(t, right, c.then...)
		for _, wrong := range []api.Call{
			otherwise(right[at], func(c *api.Call) { c.Yes = !c.Yes }),
			otherwise(right[at], func(c *api.Call) { c.Result++ }),
			otherwise(right[at], func(c *api.Call) { c.Result-- }),
			otherwise(right[at], func(c *api.Call) { c.Yes, c.Result = !c.Yes, c.Result+5 }),
		} {
			calls := swapped(right, at, wrong)
			points(t, calls, at)
			noLine(t, calls)
			keys(t, calls, c.then...) // what was answered changes nothing
			calls[at].To = -1         // nor is it looked at where there is no answer
			points(t, calls, -1)
			lines(t, calls, places(at)...)
			keys(t, calls, c.then...)
		}
	}
}

// All kinds behind one another over one set, with what is in it behind each.
func TestALongSeries(t *testing.T) {
	series := []struct {
		call api.Call
		then []int64
	}{
		{size(0, 0, 1, 2), nil},
		{least(false, 0, 0, 2, 3), nil},
		{insert(4, true, 0, 3, 4), []int64{4}},
		{insert(-9, true, 0, 4, 5), []int64{-9, 4}},
		{insert(4, false, 0, 5, 6), []int64{-9, 4}},
		{contains(4, true, 0, 6, 7), []int64{-9, 4}},
		{least(true, -9, 0, 7, 8), []int64{4}},
		{size(1, 0, 8, 9), []int64{4}},
		{move(4, 5, true, 0, 9, 10), []int64{5}},
		{contains(4, false, 0, 10, 11), []int64{5}},
		{contains(5, true, 0, 11, 12), []int64{5}},
		{move(5, 5, false, 0, 12, 13), []int64{5}},
		{insert(4, true, 0, 13, 14), []int64{4, 5}},
		{move(4, 5, false, 0, 14, 15), []int64{4, 5}},
		{remove(5, true, 0, 15, 16), []int64{4}},
		{remove(5, false, 0, 16, 17), []int64{4}},
		{move(4, 5, true, 0, 17, 18), []int64{5}},
		{size(1, 0, 18, 19), []int64{5}},
		{least(true, 5, 0, 19, 20), nil},
		{least(false, 0, 0, 20, 21), nil},
	}
	var calls []api.Call
	for _, c := range series {
		calls = append(calls, c.call)
		points(t, calls, -1)
		keys(t, calls, c.then...)
	}
	for i := range calls {
		points(t, swapped(calls, i, otherwise(calls[i], func(c *api.Call) { c.Yes = !c.Yes })), i)
		points(t, swapped(calls, i, otherwise(calls[i], func(c *api.Call) { c.Result ^= 1 })), i)
	}
}
