package intset_test

import (
	"math"
	"slices"
	"testing"

	"braid/api"
	"braid/fixture"
	"braid/intset"
)

func TestEmpty(t *testing.T) {
	if got := intset.Empty(); got != (api.Value{Num: 0, Next: -1, Dead: false}) {
		t.Errorf("Empty = %+v", got)
	}
}

func TestExample6(t *testing.T) {
	keys(t, true, []int64{5, 8}, 0, api.Value{Next: 1}, api.Value{Num: 5, Next: 2}, api.Value{Num: 8, Next: -1})
	keys(t, true, nil, 0, api.Value{Num: 9, Next: -1})
	keys(t, false, nil, 0)
	keys(t, false, nil, 0, api.Value{Next: 1}, api.Value{Num: 5, Next: 0})
	keys(t, false, nil, 0, api.Value{Next: 1}, api.Value{Num: 5, Next: 1})
	keys(t, false, nil, 0, api.Value{Next: 1}, api.Value{Num: 5, Next: -2})
	keys(t, false, nil, 0, api.Value{Next: 1}, api.Value{Num: 5, Next: 2, Dead: true}, api.Value{Num: 8, Next: -1})
	keys(t, false, nil, 0, api.Value{Next: 1}, api.Value{Num: 5, Next: 2}, api.Value{Num: 8, Next: -1, Dead: true})
}

func keys(t *testing.T, is bool, want []int64, head int, values ...api.Value) {
	t.Helper()
	was := slices.Clone(values)
	got, ok := intset.Keys(values, head)
	if ok != is || !slices.Equal(got, want) || !ok && got != nil {
		t.Errorf("Keys(%+v, %d) = %v, %v, want %v, %v", values, head, got, ok, want, is)
	}
	if !slices.Equal(values, was) {
		t.Errorf("the values are %+v, were %+v", values, was)
	}
}

// A head that is no place, be the values what they may.
func TestKeysHead(t *testing.T) {
	for _, many := range []int{0, 1, 3} {
		for _, head := range far() {
			values := make([]api.Value, many)
			for i := range values {
				values[i].Next = -1
			}
			keys(t, head >= 0 && head < many, nil, head, values...)
		}
	}
	keys(t, false, nil, 0, []api.Value{}...)
}

// A Next that is neither -1 nor a place, at the head, in the middle and at the end.
func TestKeysNext(t *testing.T) {
	for _, next := range nowhere() {
		if next == -1 {
			continue
		}
		for at := range 4 {
			values := list(0, 1, 2, 3)
			values[at].Next = next
			keys(t, false, nil, 0, values...)
		}
	}
	values := list(0, 1, 2, 3)
	for at, want := range [][]int64{nil, {1}, {1, 2}, {1, 2, 3}} {
		cut := slices.Clone(values)
		cut[at].Next = -1
		keys(t, true, want, 0, cut...)
	}
}

// A walk that comes to the head, or to any node again.
func TestKeysCircle(t *testing.T) {
	for from := range 4 {
		for to := range from + 1 {
			values := list(0, 1, 2, 3)
			values[from].Next = to
			keys(t, false, nil, 0, values...)
		}
	}
	// though the head has a greater number than the last node
	keys(t, false, nil, 0, api.Value{Num: 9, Next: 1}, api.Value{Num: 5, Next: 0})
	keys(t, false, nil, 0, api.Value{Num: 9, Next: 0})
	keys(t, false, nil, 1, api.Value{Num: 5, Next: 1}, api.Value{Num: 9, Next: 0})
}

// A dead node at any place; a dead head, and a dead node that is not in the list, are not looked at.
func TestKeysDead(t *testing.T) {
	for at := range 3 {
		values := list(0, 1, 2, 3)
		values[1+at].Dead = true
		keys(t, false, nil, 0, values...)
	}
	values := list(1, 1, 2, 3)
	values[0].Dead, values[4] = true, api.Value{Num: 2, Next: 99, Dead: true}
	keys(t, true, []int64{1, 2, 3}, 0, values...)
}

// Keys that fall, or stay, at any place; the head's number is not looked at.
func TestKeysRise(t *testing.T) {
	keys(t, false, nil, 0, list(0, 5, 5)...)
	keys(t, false, nil, 0, list(0, 5, 4)...)
	keys(t, false, nil, 0, list(0, 1, 5, 5)...)
	keys(t, false, nil, 0, list(0, 1, 5, 1)...)
	keys(t, false, nil, 0, list(0, 1, 0, 5)...)
	keys(t, false, nil, 0, list(0, 0, -1)...)
	keys(t, false, nil, 0, list(0, math.MaxInt64, math.MinInt64)...)
	keys(t, false, nil, 0, list(0, math.MinInt64, math.MinInt64)...)
	keys(t, true, []int64{math.MinInt64, math.MinInt64 + 1, -1, 0, 1, math.MaxInt64}, 0, list(0, math.MinInt64, math.MinInt64+1, -1, 0, 1, math.MaxInt64)...)
	for _, n := range []int64{math.MinInt64, -1, 0, 5, 6, math.MaxInt64} {
		values := list(2, 5, 6)
		values[0].Num = n
		keys(t, true, []int64{5, 6}, 0, values...)
	}
}

// The answer is new memory, its spare room too.
func TestKeysAreNew(t *testing.T) {
	values := list(0, 1, 2, 3)
	one, _ := intset.Keys(values, 0)
	two, _ := intset.Keys(values, 0)
	one = one[:cap(one)]
	for i := range one {
		one[i] = -7
	}
	if !slices.Equal(two, []int64{1, 2, 3}) {
		t.Errorf("%v", two)
	}
	keys(t, true, []int64{1, 2, 3}, 0, values...)
}

// Thrown values, held against a walk that keeps where it has been.
func TestKeysThrown(t *testing.T) {
	d := fixture.NewDice()
	lists := 0
	for range 20000 {
		values := make([]api.Value, d.Below(6))
		for i := range values {
			values[i] = api.Value{Num: int64(i + d.Below(2)), Next: min(i+1+d.Below(2), len(values)), Dead: d.Below(20) == 0}
			if values[i].Next == len(values) {
				values[i].Next = -1
			}
			if d.Below(10) == 0 {
				values[i].Next = fixture.Pick(&d, -1, -2, 0, d.Below(6), len(values))
			}
		}
		head := d.Below(len(values)+2) - 1
		want, is := plainKeys(values, head)
		keys(t, is, want, head, values...)
		if is && len(want) > 1 {
			lists++
		}
	}
	if lists < 500 {
		t.Errorf("%d lists", lists)
	}
}

func plainKeys(values []api.Value, head int) ([]int64, bool) {
	if head < 0 || head >= len(values) {
		return nil, false
	}
	been := []int{head}
	var keys []int64
	for at := values[head].Next; at != -1; at = values[at].Next {
		if at < 0 || at >= len(values) || slices.Contains(been, at) {
			return nil, false
		}
		been = append(been, at)
		keys = append(keys, values[at].Num)
		if values[at].Dead || len(slices.Compact(slices.Sorted(slices.Values(keys)))) != len(keys) || !slices.IsSorted(keys) {
			return nil, false
		}
	}
	return keys, true
}
