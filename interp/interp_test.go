package interp_test

import (
	"math"
	"slices"
	"testing"

	"braid/api"
	"braid/fixture"
	"braid/interp"
	"braid/lang"
	"braid/retry"
)

// The first attempt of a floor's first job.
var first = fixture.By(2, 5, 1, 1)

func TestExample1(t *testing.T) {
	f := lay(t, api.Polite, 100)
	j := f.job("get r1 @0\nadd r1 r1 1\nput @0 r1\ndone r1")
	f.tells(j, sight{})
	f.Does(j, first,
		"none begin -1;-1;-1 @0 0>1 | 0",
		"read point 0;-1;-1 @3 0>0 | 0", "read status 0;-1;0 @1 2>2 | 0", "read mine 0;0;-1 @6 1>1 tells 7 | 1",
		"none local -1;-1;-1 | 2",
		"write point 0;-1;-1 @3 0>0 | 2", "write status 0;-1;0 @1 2>2 | 2", "write acquire 0;-1;-1 @3 0>2 | 2",
		"write mine 0;0;-1 @6 1>1 tells 7 puts 8 | 3",
		"final commit -1;-1;-1 @6 1>2 end commit | 3",
		"none return -1;-1;-1 | 3")
	f.answers(j, 3, api.EndCommit, 8, 1)
	f.committed(8, 8)
}

func TestExample2(t *testing.T) {
	f := lay(t, api.Polite, 100)
	j := f.job("")
	f.Does(j, first, "none begin -1;-1;-1 @0 0>1 | 0", "final commit -1;-1;-1 @6 1>2 end commit | 0", "none return -1;-1;-1 | 0")
	f.answers(j, 0, api.EndCommit, 0, 1)
	f.committed(7, 8)
}

func TestExample3(t *testing.T) {
	for _, text := range []string{"get r1 @2", "drop @-1", "put @5 r0", "take r1 @2"} {
		f := lay(t, api.Polite, 100)
		j := f.job(text)
		f.Does(j, first, "none begin -1;-1;-1 @0 0>1 | 0", "quit quit -1;-1;-1 @6 1>3 end bad | 0", "none return -1;-1;-1 | 0")
		f.answers(j, 0, api.EndBad, 0, 1)
		f.committed(7, 8)
	}
}

func TestExample4(t *testing.T) {
	f := lay(t, api.Polite, 100)
	j := f.job("put @0 9\nquit")
	f.Does(j, first,
		"none begin -1;-1;-1 @0 0>1 | 0",
		"write point 0;-1;-1 @3 0>0 | 0", "write status 0;-1;0 @1 2>2 | 0", "write acquire 0;-1;-1 @3 0>2 | 0",
		"write mine 0;-1;-1 @6 1>1 tells 7 puts 9 | 1",
		"quit quit -1;-1;-1 @6 1>3 end user | 1",
		"none return -1;-1;-1 | 1")
	f.answers(j, 1, api.EndUser, 0, 1)
	f.committed(7, 8)
}

func TestExample5(t *testing.T) {
	f := lay(t, api.Polite, 100)
	j := f.job("put @0 9\nget r1 @0\ndone r1")
	f.Does(j, first,
		"none begin -1;-1;-1 @0 0>1 | 0",
		"write point 0;-1;-1 @3 0>0 | 0", "write status 0;-1;0 @1 2>2 | 0", "write acquire 0;-1;-1 @3 0>2 | 0",
		"write mine 0;-1;-1 @6 1>1 tells 7 puts 9 | 1",
		"read local 0;-1;-1 tells 9 | 2",
		"final commit -1;-1;-1 @6 1>2 end commit | 2",
		"none return -1;-1;-1 | 2")
	f.answers(j, 2, api.EndCommit, 9, 1)
	f.committed(9, 8)
}

func TestExample6(t *testing.T) {
	f := lay(t, api.Polite, 100)
	j := f.job("get r1 @0\ndrop @0\ndrop @0")
	f.Does(j, first,
		"none begin -1;-1;-1 @0 0>1 | 0",
		"read point 0;-1;-1 @3 0>0 | 0", "read status 0;-1;0 @1 2>2 | 0", "read mine 0;0;-1 @6 1>1 tells 7 | 1",
		"none release 0;0;-1 | 2", "none release 0;-1;-1 | 3",
		"final commit -1;-1;-1 @6 1>2 end commit | 3",
		"none return -1;-1;-1 | 3")
	f.answers(j, 3, api.EndCommit, 0, 1)
}

func TestExample7(t *testing.T) {
	f := lay(t, api.Polite, 100)
	refused := []lang.Instr{{Code: lang.Quit, To: 1}}
	for _, c := range []struct {
		code    []lang.Instr
		objects int
		want    api.Errno
	}{{nil, 17, api.ErrLimit}, {nil, -1, api.ErrLimit}, {refused, 17, api.ErrCode}} {
		if j, e := interp.New(f.Fresh(0, 0), c.code, c.objects); j != nil || e != c.want {
			t.Errorf("New(%+v, %d) = %v, %d, want %d", c.code, c.objects, j, e, c.want)
		}
	}
}

// far are numbers that no number of objects may be.
var far = []int{math.MinInt, math.MinInt32, -1 << 32, -17, -1, 17, 80, 1 << 32, math.MaxInt32, math.MaxInt}

// New: what lang.Check answers comes first, then the number of objects; whatever it answers, nothing of the scene moves.
func TestNew(t *testing.T) {
	many := make([]lang.Instr, lang.MaxCode+1)
	for k := range many {
		many[k].Code = lang.Quit
	}
	codes := []struct {
		code []lang.Instr
		want api.Errno
	}{
		{nil, api.OK},
		{[]lang.Instr{}, api.OK},
		{many[:lang.MaxCode], api.OK},
		{many, api.ErrMany},
		{make([]lang.Instr, lang.MaxCode+1), api.ErrMany},
		{make([]lang.Instr, 1), api.ErrCode},
		{[]lang.Instr{{Code: lang.Done}, {Code: lang.Get, Dst: 16}}, api.ErrCode},
		{[]lang.Instr{{Code: lang.Goto, To: 1}}, api.OK},
		{[]lang.Instr{{Code: lang.Goto, To: 2}}, api.ErrCode},
		{[]lang.Instr{{Code: lang.Get, Obj: fixture.Num(math.MinInt64)}}, api.OK}, // a bad object is found when it runs
	}
	f := lay(t, api.Polite, 100)
	f.Open()
	for _, c := range codes {
		for _, objects := range append([]int{0, 1, 2, 15, 16}, far...) {
			want := c.want
			if want == api.OK && slices.Contains(far, objects) {
				want = api.ErrLimit
			}
			all := fixture.AroundOf(f.Scene)
			x := f.Fresh(0, 0)
			j, e := interp.New(x, c.code, objects)
			if e != want || (j == nil) != (want != api.OK) {
				t.Fatalf("New(%+v, %d) = %v, %d, want %d", c.code, objects, j, e, want)
			}
			if fixture.AroundOf(f.Scene) != all || x.State() != api.StateFresh || x.Tries() != 0 || len(f.Scene.Memory.Log()) != 0 {
				t.Fatalf("New(%+v, %d) has moved the scene", c.code, objects)
			}
			if j != nil {
				f.tells(j, sight{})
			}
		}
	}
}

// A transaction for which a job was refused may have another one.
func TestRefusedLeavesTheTransaction(t *testing.T) {
	f := lay(t, api.Polite, 100)
	x := f.Fresh(2, 5)
	interp.New(x, nil, 17)
	interp.New(x, make([]lang.Instr, 1), 2)
	j, e := interp.New(x, fixture.Program(t, "get r1 @1\ndone r1"), 2)
	f.OK(e)
	f.Run(j)
	f.answers(j, 1, api.EndCommit, 8, 1)
}

func TestNilAndZero(t *testing.T) {
	f := lay(t, api.Polite, 100)
	f.Open()
	for _, j := range []*interp.Job{nil, {}, new(interp.Job)} {
		for range 3 {
			f.tells(j, sight{over: true})
			f.Refused(j, api.ErrEnded)
		}
	}
}

// The rows tell whose the transaction is, whatever numbers that are.
func TestWhoseRows(t *testing.T) {
	for _, n := range []int{0, 1, -1, 5, 99, math.MaxInt, math.MinInt} {
		f := lay(t, api.Polite, 100)
		f.Run(f.job("")) // so that the attempt's number is another than the try
		j := f.jobOf(n, -n, fixture.Program(t, "let r1 1\nadd r1 r1 1\nif 1 == 1 e\ne: goto g\ng: drop @0\nget r1 @0\ndrop @0"))
		for _, r := range f.Run(j) {
			if fixture.WhoseOf(r) != fixture.By(n, -n, 1, 2) {
				t.Fatalf("%+v", r)
			}
		}
	}
}

// Every field of the rows that are the job's own.
func TestOwnRows(t *testing.T) {
	f := lay(t, api.Polite, 100)
	j := f.job("let r1 1\nadd r1 r1 1\nif r1 == 2 e\nquit\ne: goto g\nquit\ng: if r1 == 3 e\nget r2 @1\nget r2 @0\ndrop @0\ndrop @0\ndone 0")
	own := api.Row{Thread: 2, Job: 5, Try: 1, Attempt: 1, Object: -1, Entry: -1, Enemy: -1, Cell: -1}
	local, release, back := own, own, own
	local.Kind, release.Kind, back.Kind = api.RowLocal, api.RowRelease, api.RowReturn
	released, none := release, release
	released.Object, released.Entry = 0, 1
	none.Object = 0
	want := []api.Row{local, local, local, local, local, released, none, back}
	got := slices.DeleteFunc(f.Run(j), func(r api.Row) bool {
		return r.Kind != api.RowLocal && r.Kind != api.RowRelease && r.Kind != api.RowReturn
	})
	if !slices.Equal(got, want) {
		t.Errorf("%+v, want %+v", got, want)
	}
}

// What is handed in is neither changed nor kept, spare room too.
func TestHandedIn(t *testing.T) {
	f := lay(t, api.Polite, 100)
	room := append(fixture.Program(t, "get r1 @0\nadd r1 r1 1\nput @0 r1\ndone r1"), make([]lang.Instr, 8)...)
	code := room[:4]
	was := slices.Clone(room)
	j, e := interp.New(f.Fresh(2, 5), code, 2)
	f.OK(e)
	for k := 0; !j.Over(); k++ {
		if !slices.Equal(room, was) {
			t.Fatalf("step %d: the program is %+v", k, room)
		}
		for i := range room {
			room[i] = lang.Instr{Code: lang.Quit}
		}
		f.Step(j)
		if slices.ContainsFunc(room, func(in lang.Instr) bool { return in != lang.Instr{Code: lang.Quit} }) {
			t.Fatalf("step %d: the program is %+v", k, room)
		}
		copy(room, was)
	}
	f.answers(j, 3, api.EndCommit, 8, 1)
	f.committed(8, 8)
}

// Two jobs of one program share nothing.
func TestTwoOfOneProgram(t *testing.T) {
	f := lay(t, api.Polite, 1)
	code := fixture.Program(t, "get r1 @r0\nadd r0 r0 1\nget r2 @r0\nadd r1 r1 r2\ndone r1")
	i, j := f.jobOf(0, 0, code), f.jobOf(1, 0, code)
	for k := 0; !i.Over() || !j.Over(); k++ {
		if !i.Over() {
			f.Step(i)
		}
		if k%3 > 0 && !j.Over() {
			f.Step(j)
		}
	}
	f.answers(i, 4, api.EndCommit, 15, 1)
	f.answers(j, 4, api.EndCommit, 15, 1)
}

// Whoever hands in a transaction that stands elsewhere, or more objects than the world has, has steps that end.
func TestWhatIsLeftFree(t *testing.T) {
	f := lay(t, api.Polite, 1)
	f.Open()
	stands := []func() *retry.Transaction{
		func() *retry.Transaction { return nil },
		func() *retry.Transaction { return new(retry.Transaction) },
		func() *retry.Transaction { return f.Fresh(0, 0) },
		func() *retry.Transaction { // open
			x := f.Fresh(0, 0)
			f.Open()
			x.Step()
			return x
		},
		func() *retry.Transaction { // busy
			x := f.Fresh(0, 0)
			f.Open()
			x.Step()
			x.Write(0)
			return x
		},
		func() *retry.Transaction { // over
			x := f.Fresh(0, 0)
			f.Open()
			x.Step()
			x.Quit(api.EndUser)
			f.Open()
			x.Step()
			return x
		},
	}
	code := fixture.Program(t, "get r1 @1\nput @7 3\ndrop @7\ntake r1 @8\nquit")
	for _, stand := range stands {
		for from := range len(code) + 1 {
			j, e := interp.New(stand(), code[from:], 16)
			f.OK(e)
			for range 20 {
				f.Open()
				if r, e := j.Step(); e != api.OK && r != (api.Row{}) {
					t.Errorf("Step = %+v, %d", r, e)
				}
				if place := j.Place(); place < 0 || place > len(code)-from {
					t.Errorf("place %d of %d", place, len(code)-from)
				}
			}
		}
	}
}
