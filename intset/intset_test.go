package intset_test

import (
	"math"
	"slices"
	"testing"

	"braid/api"
	"braid/fixture"
	"braid/intset"
	"braid/retry"
)

func TestExample1(t *testing.T) {
	f := lay(t)
	j := f.job(contains(8))
	f.Does(j, first(),
		"none begin -1;-1;-1 @0 0>1",
		"read point 0;-1;-1 @3 0>0", "read status 0;-1;0 @1 2>2", "read mine 0;0;-1 @8 1>1 tells 0,1",
		"read point 1;-1;-1 @4 1>1", "read status 1;-1;0 @1 2>2",
		"read point 0;0;-1 @3 0>0", "read status 0;0;0 @1 2>2", "read mine 1;1;-1 @8 1>1 tells 5,2",
		"none release 0;0;-1",
		"read point 2;-1;-1 @5 2>2", "read status 2;-1;0 @1 2>2",
		"read point 1;1;-1 @4 1>1", "read status 1;1;0 @1 2>2", "read mine 2;2;-1 @8 1>1 tells 8,-1",
		"final point 1;1;-1 @4 1>1", "final status 1;1;0 @1 2>2",
		"final point 2;2;-1 @5 2>2", "final status 2;2;0 @1 2>2", "final commit -1;-1;-1 @8 1>2 end commit",
		"none return -1;-1;-1")
	f.Answers(j, yes(0, 1))
	f.committed(list(1, 5, 8)...)
}

func TestExample2(t *testing.T) {
	f := lay(t)
	j := f.job(insert(6))
	f.told(j, 2)
	f.Does(j, first(),
		"write point 3;-1;-1 @6 3>3", "write status 3;-1;0 @1 2>2", "write acquire 3;-1;-1 @6 3>4",
		"write point 1;1;-1 @4 1>1", "write status 1;1;0 @1 2>2", "write point 2;2;-1 @5 2>2", "write status 2;2;0 @1 2>2",
		"write mine 3;-1;-1 @8 1>1 tells 0,-1 puts 6,2",
		"write point 1;-1;-1 @4 1>1", "write status 1;-1;0 @1 2>2", "write acquire 1;-1;-1 @4 1>5",
		"write point 2;2;-1 @5 2>2", "write status 2;2;0 @1 2>2",
		"write mine 1;1;-1 @8 1>1 tells 5,2 puts 5,3",
		"final point 2;2;-1 @5 2>2", "final status 2;2;0 @1 2>2", "final commit -1;-1;-1 @8 1>2 end commit",
		"none return -1;-1;-1")
	f.Answers(j, yes(0, 1))
	f.keys(5, 6, 8)
}

func TestExample3(t *testing.T) {
	f := lay(t)
	j := f.job(remove(5))
	f.told(j, 1)
	f.Does(j, first(),
		"write point 1;-1;-1 @4 1>1", "write status 1;-1;0 @1 2>2", "write acquire 1;-1;-1 @4 1>4",
		"write point 0;0;-1 @3 0>0", "write status 0;0;0 @1 2>2", "write mine 1;1;-1 @8 1>1 tells 5,2 puts 5,2,dead",
		"write point 0;-1;-1 @3 0>0", "write status 0;-1;0 @1 2>2", "write acquire 0;-1;-1 @3 0>5",
		"write mine 0;0;-1 @8 1>1 tells 0,1 puts 0,2",
		"final commit -1;-1;-1 @8 1>2 end commit", "none return -1;-1;-1")
	f.Answers(j, yes(0, 1))
	f.keys(8)
	f.committed(api.Value{Next: 2}, api.Value{Num: 5, Next: 2, Dead: true}, api.Value{Num: 8, Next: -1}, api.Value{Next: -1})
}

func TestExample4(t *testing.T) {
	for _, c := range []struct {
		ask    ask
		does   string
		answer api.Answer
		keys   []int64
	}{
		{least(), "get 0, get 1, put 1 5>2!, put 0 0>2, commit", yes(5, 1), []int64{8}},
		{size(), "get 0, get 1, get 2, commit", yes(2, 1), []int64{5, 8}},
		{move(5, 9), "get 0, get 1, get 2, get 0, get 1, put 1 5>2!, put 0 0>2, get 0, get 2, put 3 9>-1, put 2 8>3, commit",
			yes(0, 1), []int64{8, 9}},
		{move(5, 8), "get 0, get 1, get 2, commit", no(1), []int64{5, 8}},
		{move(6, 9), "get 0, get 1, get 2, get 0, get 1, get 2, commit", no(1), []int64{5, 8}},
		{move(5, 5), "get 0, get 1, commit", no(1), []int64{5, 8}},
	} {
		f := lay(t)
		f.does(f.job(c.ask), c.does, c.answer)
		f.keys(c.keys...)
	}
}

// The move of example 4, row by row.
func TestMoveRows(t *testing.T) {
	f := lay(t)
	j := f.job(move(5, 9))
	f.told(j, 2)
	f.Does(j, first(),
		"read local 0;0;-1 tells 0,1", "read local 1;1;-1 tells 5,2",
		"write point 1;-1;-1 @4 1>1", "write status 1;-1;0 @1 2>2", "write acquire 1;-1;-1 @4 1>4",
		"write point 0;0;-1 @3 0>0", "write status 0;0;0 @1 2>2", "write point 2;2;-1 @5 2>2", "write status 2;2;0 @1 2>2",
		"write mine 1;1;-1 @8 1>1 tells 5,2 puts 5,2,dead",
		"write point 0;-1;-1 @3 0>0", "write status 0;-1;0 @1 2>2", "write acquire 0;-1;-1 @3 0>5",
		"write point 2;2;-1 @5 2>2", "write status 2;2;0 @1 2>2", "write mine 0;0;-1 @8 1>1 tells 0,1 puts 0,2",
		"read local 0;-1;-1 tells 0,2", "read local 2;2;-1 tells 8,-1",
		"write point 3;-1;-1 @6 3>3", "write status 3;-1;0 @1 2>2", "write acquire 3;-1;-1 @6 3>6",
		"write point 2;2;-1 @5 2>2", "write status 2;2;0 @1 2>2", "write mine 3;-1;-1 @8 1>1 tells 0,-1 puts 9,-1",
		"write point 2;-1;-1 @5 2>2", "write status 2;-1;0 @1 2>2", "write acquire 2;-1;-1 @5 2>7",
		"write mine 2;2;-1 @8 1>1 tells 8,-1 puts 8,3",
		"final commit -1;-1;-1 @8 1>2 end commit", "none return -1;-1;-1")
	f.Answers(j, yes(0, 1))
	f.committed(api.Value{Next: 2}, api.Value{Num: 5, Next: 2, Dead: true}, api.Value{Num: 8, Next: 3}, api.Value{Num: 9, Next: -1})
}

func TestExample5(t *testing.T) {
	f := lay(t)
	for _, c := range []struct {
		call, head, node int
		want             api.Errno
	}{{0, 0, 3, api.ErrKind}, {7, 0, 3, api.ErrKind}, {api.JobSize, 2, 2, api.ErrNode}, {api.JobSize, -1, 2, api.ErrNode}, {9, -1, 2, api.ErrKind}} {
		if j, e := intset.New(f.Fresh(0, 0), c.call, 0, 0, c.head, c.node); j != nil || e != c.want {
			t.Errorf("New(%+v) = %v, %d", c, j, e)
		}
	}
	j := f.jobOf(2, 5, size(), 4, 3)
	f.Does(j, first(), "none begin -1;-1;-1 @0 0>1", "quit quit -1;-1;-1 @8 1>3 end bad", "none return -1;-1;-1")
	f.Answers(j, bad(1))
	f = lay(t)
	j = f.jobOf(2, 5, insert(6), 0, 4)
	f.told(j, 2)
	f.Does(j, first(), "quit quit -1;-1;-1 @8 1>3 end bad", "none return -1;-1;-1")
	f.Answers(j, bad(1))
	f.committed(list(1, 5, 8)...)
}

// far are numbers at the ends, and where fewer bits turn.
func far() []int {
	return []int{math.MinInt, math.MinInt + 1, math.MinInt32, -1 << 32, -256, -7, -2, -1, 0, 1, 2, 3, 4, 5, 6, 7, 8, 79, 80, 256, 257, 1 << 32, 1<<32 + 1, math.MaxInt32, math.MaxInt}
}

// New: a call that is none of the six comes first, then head and node; whatever it answers, nothing of the scene moves.
func TestNew(t *testing.T) {
	f := lay(t)
	f.Open()
	for _, call := range far() {
		for _, head := range far() {
			for _, node := range far() {
				want := api.OK
				switch {
				case call < 1 || call > 6:
					want = api.ErrKind
				case head < 0 || node < 0 || head == node:
					want = api.ErrNode
				}
				all := fixture.AroundOf(f.Scene)
				x := f.Fresh(0, 0)
				j, e := intset.New(x, call, int64(head), int64(node), head, node)
				if e != want || (j == nil) != (want != api.OK) {
					t.Fatalf("New(%d, %d, %d) = %v, %d, want %d", call, head, node, j, e, want)
				}
				if fixture.AroundOf(f.Scene) != all || x.State() != api.StateFresh || x.Tries() != 0 {
					t.Fatalf("New(%d, %d, %d) has moved the scene", call, head, node)
				}
				if j != nil && (j.Over() || j.Answer() != api.Answer{}) {
					t.Fatalf("over is %v, the answer %+v", j.Over(), j.Answer())
				}
			}
		}
	}
	if n := len(f.Scene.Memory.Log()); n != 0 {
		t.Errorf("%d accesses", n)
	}
}

// A transaction for which a call was refused may have another one.
func TestRefusedLeavesTheTransaction(t *testing.T) {
	f := lay(t)
	x := f.Fresh(2, 5)
	intset.New(x, 0, 0, 0, 0, 3)
	intset.New(x, api.JobSize, 0, 0, 3, 3)
	j, e := intset.New(x, api.JobSize, 0, 0, 0, 3)
	f.OK(e)
	f.Run(j)
	f.Answers(j, yes(2, 1))
}

func TestNilAndZero(t *testing.T) {
	f := lay(t)
	for _, j := range []*intset.Job{nil, {}, new(intset.Job)} {
		f.Answers(j, api.Answer{})
	}
}

// The rows tell whose the transaction is, whatever numbers that are.
func TestWhoseRows(t *testing.T) {
	for _, n := range far() {
		f := layOver(t, list(1, 5, 8))
		f.Run(f.job(size())) // so that the attempt's number is another than the try
		for _, r := range f.Run(f.jobOf(n, -n, contains(8), 0, 3)) {
			if fixture.WhoseOf(r) != fixture.By(n, -n, 1, 2) {
				t.Fatalf("%+v", r)
			}
		}
	}
}

// Every field of the rows that are the call's own.
func TestOwnRows(t *testing.T) {
	f := layOver(t, list(1, 5, 8, 20, 21))
	j := f.job(contains(20))
	row := api.Row{Thread: 2, Job: 5, Try: 1, Attempt: 1, Object: -1, Entry: -1, Enemy: -1, Cell: -1}
	release, back := row, row
	release.Kind, back.Kind = api.RowRelease, api.RowReturn
	release.Object, release.Entry = 0, 0
	want := []api.Row{release, release, back}
	want[1].Object, want[1].Entry = 1, 1
	got := slices.DeleteFunc(f.Run(j), func(r api.Row) bool { return r.Kind != api.RowRelease && r.Kind != api.RowReturn })
	if !slices.Equal(got, want) {
		t.Errorf("%+v, want %+v", got, want)
	}
}

// Whoever hands in a transaction that stands elsewhere has steps that end.
func TestWhatIsLeftFree(t *testing.T) {
	begun := func(f *floor) *retry.Transaction {
		x := f.Fresh(0, 0)
		f.Open()
		x.Step()
		return x
	}
	for _, stand := range []func(*floor) *retry.Transaction{
		func(*floor) *retry.Transaction { return nil },
		func(*floor) *retry.Transaction { return new(retry.Transaction) },
		begun,
		func(f *floor) *retry.Transaction { // busy
			x := begun(f)
			x.Write(1)
			return x
		},
		func(f *floor) *retry.Transaction { // over
			x := begun(f)
			x.Quit(api.EndUser)
			f.Open()
			x.Step()
			return x
		},
	} {
		for _, a := range []ask{insert(6), remove(5), contains(8), least(), size(), move(8, 3)} {
			f := lay(t)
			j, e := intset.New(stand(f), a.call, a.key, a.other, 0, 3)
			f.OK(e)
			for range 100 {
				f.Open()
				if r, e := j.Step(); e != api.OK && r != (api.Row{}) {
					t.Fatalf("%v: %+v, %d", a, r, e)
				}
			}
		}
	}
}

// What somebody else asks of a call's transaction is left free, but the steps end.
func TestSomebodyElseAsks(t *testing.T) {
	for _, a := range []ask{insert(6), remove(5), contains(8), least(), size(), move(8, 3)} {
		for at := range 30 {
			for _, asks := range []func(*retry.Transaction){
				func(x *retry.Transaction) { x.Read(2) },
				func(x *retry.Transaction) { x.Write(2) },
				func(x *retry.Transaction) { x.Finish() },
				func(x *retry.Transaction) { x.Quit(api.EndUser) },
				func(x *retry.Transaction) { x.Release(0) },
				func(x *retry.Transaction) { x.Step() },
			} {
				f := lay(t)
				x := f.Fresh(0, 0)
				j, e := intset.New(x, a.call, a.key, a.other, 0, 3)
				f.OK(e)
				for n := 0; n < 200 && !j.Over(); n++ {
					f.Open()
					if n == at {
						asks(x)
					}
					j.Step()
				}
			}
		}
	}
}

// Two calls of one kind share nothing.
func TestTwoCalls(t *testing.T) {
	for _, a := range []ask{contains(8), size(), contains(9)} {
		f := layOver(t, list(2, 5, 8))
		i, j := f.jobOf(0, 0, a, 0, 3), f.jobOf(1, 0, a, 0, 4)
		for k := 0; !i.Over() || !j.Over(); k++ {
			if !i.Over() {
				f.Step(i)
			}
			if k%3 > 0 && !j.Over() {
				f.Step(j)
			}
		}
		if i.Answer() != j.Answer() || i.Answer().Tries != 1 {
			t.Errorf("%v: %+v and %+v", a, i.Answer(), j.Answer())
		}
	}
}

// Where the memory or the world has no room, steps end.
func TestNoRoom(t *testing.T) {
	f := lay(t)
	j := f.job(insert(6))
	for f.Scene.Memory.Size() < api.MaxCells {
		f.Scene.Memory.Make(0)
	}
	for range 10 {
		f.Open()
		if r, e := j.Step(); r != (api.Row{}) || e == api.OK {
			t.Fatalf("%q, %d", fixture.Row(r), e)
		}
	}
	f = lay(t)
	j = f.job(insert(6))
	f.Step(j)
	for e := api.OK; e == api.OK; {
		_, e = f.Scene.World.Make(1, 0)
	}
	for range 50 {
		f.Open()
		j.Step()
	}
	if j.Over() {
		t.Errorf("%+v", j.Answer())
	}
}
