package intset_test

import (
	"math"
	"slices"
	"testing"

	"braid/api"
	"braid/intset"
)

// did is what a call does alone over a list.
type did struct {
	ask    ask
	does   string
	answer api.Answer
	keys   []int64
}

// on looks what calls do over a list with these keys, each over one of its own.
func on(t *testing.T, keys []int64, calls ...did) {
	t.Helper()
	for _, c := range calls {
		f := layOver(t, list(1, keys...))
		t.Logf("%v over %v", c.ask, keys)
		f.does(f.job(c.ask), c.does, c.answer)
		f.keys(c.keys...)
		for i, v := range f.Scene.World.Committed() {
			linked := i == 0 || slices.Contains(c.keys, v.Num)
			if i > 0 && i <= len(keys) && v.Dead == linked {
				t.Fatalf("object %d holds %+v", i, v)
			}
		}
	}
}

// The walks of a call over 5, 8, 20 up to the list's end, and back to the beginning of what was let go.
const (
	walk5   = "get 0, get 1, "
	walk8   = "get 0, get 1, drop 0/0, get 2, "
	walk20  = "get 0, get 1, drop 0/0, get 2, drop 1/1, get 3, "
	walkEnd = "get 0, get 1, drop 0/0, get 2, drop 1/1, get 3, drop 2/2, "
	held8   = "get 0, get 1, get 2, "
	held20  = "get 0, get 1, get 2, get 3, "
)

func TestContains(t *testing.T) {
	same := []int64{5, 8, 20}
	on(t, same,
		did{contains(-3), walk5 + "commit", no(1), same},
		did{contains(4), walk5 + "commit", no(1), same},
		did{contains(5), walk5 + "commit", yes(0, 1), same},
		did{contains(6), walk8 + "commit", no(1), same},
		did{contains(8), walk8 + "commit", yes(0, 1), same},
		did{contains(9), walk20 + "commit", no(1), same},
		did{contains(20), walk20 + "commit", yes(0, 1), same},
		did{contains(21), walkEnd + "commit", no(1), same},
		did{contains(math.MinInt64), walk5 + "commit", no(1), same},
		did{contains(math.MaxInt64), walkEnd + "commit", no(1), same})
	on(t, nil,
		did{contains(0), "get 0, commit", no(1), nil},
		did{contains(-1), "get 0, commit", no(1), nil},
		did{contains(7), "get 0, commit", no(1), nil})
	on(t, []int64{0},
		did{contains(0), walk5 + "commit", yes(0, 1), []int64{0}},
		did{contains(1), walk5 + "drop 0/0, commit", no(1), []int64{0}})
}

func TestInsert(t *testing.T) {
	same := []int64{5, 8, 20}
	on(t, same,
		did{insert(-3), walk5 + "put 4 -3>1, put 0 0>4, commit", yes(0, 1), []int64{-3, 5, 8, 20}},
		did{insert(5), walk5 + "commit", no(1), same},
		did{insert(6), walk8 + "put 4 6>2, put 1 5>4, commit", yes(0, 1), []int64{5, 6, 8, 20}},
		did{insert(8), walk8 + "commit", no(1), same},
		did{insert(9), walk20 + "put 4 9>3, put 2 8>4, commit", yes(0, 1), []int64{5, 8, 9, 20}},
		did{insert(20), walk20 + "commit", no(1), same},
		did{insert(21), walkEnd + "put 4 21>-1, put 3 20>4, commit", yes(0, 1), []int64{5, 8, 20, 21}})
	on(t, nil,
		did{insert(0), "get 0, put 1 0>-1, put 0 0>1, commit", yes(0, 1), []int64{0}},
		did{insert(7), "get 0, put 1 7>-1, put 0 0>1, commit", yes(0, 1), []int64{7}},
		did{insert(math.MinInt64), "get 0, put 1 -9223372036854775808>-1, put 0 0>1, commit", yes(0, 1), []int64{math.MinInt64}})
}

func TestRemove(t *testing.T) {
	same := []int64{5, 8, 20}
	on(t, same,
		did{remove(-3), walk5 + "commit", no(1), same},
		did{remove(5), walk5 + "put 1 5>2!, put 0 0>2, commit", yes(0, 1), []int64{8, 20}},
		did{remove(6), walk8 + "commit", no(1), same},
		did{remove(8), walk8 + "put 2 8>3!, put 1 5>3, commit", yes(0, 1), []int64{5, 20}},
		did{remove(9), walk20 + "commit", no(1), same},
		did{remove(20), walk20 + "put 3 20>-1!, put 2 8>-1, commit", yes(0, 1), []int64{5, 8}},
		did{remove(21), walkEnd + "commit", no(1), same})
	on(t, nil,
		did{remove(0), "get 0, commit", no(1), nil},
		did{remove(7), "get 0, commit", no(1), nil})
	on(t, []int64{7}, did{remove(7), "get 0, get 1, put 1 7>-1!, put 0 0>-1, commit", yes(0, 1), nil})
}

// Neither key is looked at by least and size.
func TestLeastAndSize(t *testing.T) {
	for _, n := range []int64{0, 5, -1, math.MaxInt64, math.MinInt64} {
		l, s := ask{api.JobLeast, n, -n}, ask{api.JobSize, n, -n}
		on(t, []int64{5, 8, 20},
			did{l, walk5 + "put 1 5>2!, put 0 0>2, commit", yes(5, 1), []int64{8, 20}},
			did{s, held20 + "commit", yes(3, 1), []int64{5, 8, 20}})
		on(t, nil,
			did{l, "get 0, commit", no(1), nil},
			did{s, "get 0, commit", yes(0, 1), nil})
		on(t, []int64{-7},
			did{l, "get 0, get 1, put 1 -7>-1!, put 0 0>-1, commit", yes(-7, 1), nil},
			did{s, "get 0, get 1, commit", yes(1, 1), []int64{-7}})
	}
	on(t, []int64{0}, did{least(), "get 0, get 1, put 1 0>-1!, put 0 0>-1, commit", yes(0, 1), nil})
	on(t, []int64{math.MinInt64, math.MaxInt64},
		did{least(), "get 0, get 1, put 1 -9223372036854775808>2!, put 0 0>2, commit", yes(math.MinInt64, 1), []int64{math.MaxInt64}},
		did{size(), held8 + "commit", yes(2, 1), []int64{math.MinInt64, math.MaxInt64}})
}

// A move to a place ahead of the old one, at it and behind it; of the first, the middle and the last key.
func TestMove(t *testing.T) {
	on(t, []int64{5, 8, 20},
		did{move(5, 1), "get 0, get 1, get 0, get 1, put 1 5>2!, put 0 0>2, get 0, get 2, put 4 1>2, put 0 0>4, commit",
			yes(0, 1), []int64{1, 8, 20}},
		did{move(5, 6), held8 + "get 0, get 1, put 1 5>2!, put 0 0>2, get 0, get 2, put 4 6>2, put 0 0>4, commit",
			yes(0, 1), []int64{6, 8, 20}},
		did{move(5, 9), held20 + "get 0, get 1, put 1 5>2!, put 0 0>2, get 0, get 2, get 3, put 4 9>3, put 2 8>4, commit",
			yes(0, 1), []int64{8, 9, 20}},
		did{move(5, 21), held20 + "get 0, get 1, put 1 5>2!, put 0 0>2, get 0, get 2, get 3, put 4 21>-1, put 3 20>4, commit",
			yes(0, 1), []int64{8, 20, 21}},
		did{move(8, 1), "get 0, get 1, " + held8 + "put 2 8>3!, put 1 5>3, get 0, get 1, put 4 1>1, put 0 0>4, commit",
			yes(0, 1), []int64{1, 5, 20}},
		did{move(8, 6), held8 + held8 + "put 2 8>3!, put 1 5>3, get 0, get 1, get 3, put 4 6>3, put 1 5>4, commit",
			yes(0, 1), []int64{5, 6, 20}},
		did{move(8, 9), held20 + held8 + "put 2 8>3!, put 1 5>3, get 0, get 1, get 3, put 4 9>3, put 1 5>4, commit",
			yes(0, 1), []int64{5, 9, 20}},
		did{move(8, 21), held20 + held8 + "put 2 8>3!, put 1 5>3, get 0, get 1, get 3, put 4 21>-1, put 3 20>4, commit",
			yes(0, 1), []int64{5, 20, 21}},
		did{move(20, 1), "get 0, get 1, " + held20 + "put 3 20>-1!, put 2 8>-1, get 0, get 1, put 4 1>1, put 0 0>4, commit",
			yes(0, 1), []int64{1, 5, 8}},
		did{move(20, 9), held20 + held20 + "put 3 20>-1!, put 2 8>-1, get 0, get 1, get 2, put 4 9>-1, put 2 8>4, commit",
			yes(0, 1), []int64{5, 8, 9}},
		did{move(20, 21), held20 + held20 + "put 3 20>-1!, put 2 8>-1, get 0, get 1, get 2, put 4 21>-1, put 2 8>4, commit",
			yes(0, 1), []int64{5, 8, 21}})
	on(t, []int64{7}, did{move(7, 0), "get 0, get 1, get 0, get 1, put 1 7>-1!, put 0 0>-1, get 0, put 2 0>-1, put 0 0>2, commit",
		yes(0, 1), []int64{0}})
}

// A move to a key that is in, of a key that is not in, of a key to itself.
func TestMoveNot(t *testing.T) {
	same := []int64{5, 8, 20}
	on(t, same,
		did{move(5, 5), "get 0, get 1, commit", no(1), same},
		did{move(8, 8), held8 + "commit", no(1), same},
		did{move(20, 20), held20 + "commit", no(1), same},
		did{move(6, 6), held8 + held8 + "commit", no(1), same},
		did{move(5, 20), held20 + "commit", no(1), same},
		did{move(20, 5), "get 0, get 1, commit", no(1), same},
		did{move(6, 8), held8 + "commit", no(1), same},
		did{move(6, 9), held20 + held8 + "commit", no(1), same},
		did{move(1, 2), "get 0, get 1, get 0, get 1, commit", no(1), same},
		did{move(21, 22), held20 + held20 + "commit", no(1), same},
		did{move(21, 1), "get 0, get 1, " + held20 + "commit", no(1), same})
	on(t, nil,
		did{move(0, 1), "get 0, get 0, commit", no(1), nil},
		did{move(1, 0), "get 0, get 0, commit", no(1), nil},
		did{move(0, 0), "get 0, get 0, commit", no(1), nil})
}

// A walk lets go of what it has passed, with the ordinals in their order: at the end two reads are held at most.
func TestLetsGo(t *testing.T) {
	f := layOver(t, list(1, 1, 2, 3, 4, 5, 6, 7))
	for k, r := range f.Run(f.job(contains(9))) {
		if r.Kind == api.RowRelease && r.Object != r.Entry {
			t.Errorf("row %d: %+v", k, r)
		}
	}
	f.does(f.job(insert(9)), "get 0, get 1, drop 0/0, get 2, drop 1/1, get 3, drop 2/2, get 4, drop 3/3, get 5, drop 4/4, "+
		"get 6, drop 5/5, get 7, drop 6/6, put 8 9>-1, put 7 7>8, commit", yes(0, 1))
	f = layOver(t, list(1, 1, 2, 3))
	x := f.Fresh(2, 5)
	j, e := intset.New(x, api.JobContains, 9, 0, 0, 4)
	f.OK(e)
	for k, want := range []int{0, 0, 0, 0, 1, 1, 1, 1, 1, 2, 1, 1, 1, 1, 1, 2, 1, 1, 1, 1, 1, 2, 1, 1, 1} {
		if x.Reads() != want {
			t.Errorf("behind %d steps %d reads are held, want %d", k, x.Reads(), want)
		}
		f.Step(j)
	}
}

// What stands in prev and in the node that goes is kept, but for what the call changes: a head's number, Dead.
func TestKeepsTheRest(t *testing.T) {
	values := func() []api.Value {
		return []api.Value{{Num: 77, Next: 1, Dead: true}, {Num: 5, Next: 2, Dead: true}, {Num: 8, Next: -1, Dead: true}, {Num: 9, Next: 7, Dead: true}}
	}
	for _, c := range []struct {
		ask  ask
		does string
	}{
		{insert(1), "get 0, get 1, put 3 1>1, put 0 77>3!, commit"},
		{insert(6), "get 0, get 1, drop 0/0, get 2, put 3 6>2, put 1 5>3!, commit"},
		{remove(5), "get 0, get 1, put 1 5>2!, put 0 77>2!, commit"},
		{remove(8), "get 0, get 1, drop 0/0, get 2, put 2 8>-1!, put 1 5>-1!, commit"},
		{move(8, 6), "get 0, get 1, get 2, get 0, get 1, get 2, put 2 8>-1!, put 1 5>-1!, get 0, get 1, put 3 6>-1, put 1 5>3!, commit"},
	} {
		f := layOver(t, values())
		f.does(f.job(c.ask), c.does, yes(0, 1))
	}
	f := layOver(t, values())
	f.does(f.job(least()), "get 0, get 1, put 1 5>2!, put 0 77>2!, commit", yes(5, 1))
}

// The head may be any object, and the node one ahead of it.
func TestHeadElsewhere(t *testing.T) {
	values := []api.Value{{Num: 8, Next: -1}, {Next: -1}, {Num: 5, Next: 0}, {Num: -4, Next: 2}}
	for _, c := range []did{
		{insert(6), "get 3, get 2, drop 3/0, get 0, put 1 6>0, put 2 5>1, commit", yes(0, 1), []int64{5, 6, 8}},
		{insert(-4), "get 3, get 2, put 1 -4>2, put 3 -4>1, commit", yes(0, 1), []int64{-4, 5, 8}},
		{least(), "get 3, get 2, put 2 5>0!, put 3 -4>0, commit", yes(5, 1), []int64{8}},
		{size(), "get 3, get 2, get 0, commit", yes(2, 1), []int64{5, 8}},
	} {
		f := layOver(t, values)
		f.does(f.jobOf(2, 5, c.ask, 3, 1), c.does, c.answer)
		if got, is := intset.Keys(f.Scene.World.Committed(), 3); !is || !slices.Equal(got, c.keys) {
			t.Errorf("%v: Keys = %v, %v", c.ask, got, is)
		}
	}
}

// The calls of DOC.md's example 7, one behind the other, each with a node of its own.
func TestOneBehindTheOther(t *testing.T) {
	f := layOver(t, list(7))
	for c, a := range []ask{insert(4), insert(-9), insert(4), contains(4), least(), size(), move(4, 5)} {
		j := f.jobOf(0, c, a, 0, 1+c)
		f.Run(j)
		f.Answers(j, []api.Answer{yes(0, 1), yes(0, 1), no(1), yes(0, 1), yes(-9, 1), yes(1, 1), yes(0, 1)}[c])
	}
	f.keys(5)
	if now := f.Scene.World.Committed(); now[0].Next != 7 {
		t.Errorf("%+v", now)
	}
}
