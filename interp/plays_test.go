package interp_test

import (
	"slices"
	"strconv"
	"testing"

	"braid/api"
	"braid/fixture"
	"braid/interp"
	"braid/lang"
	"braid/model"
	"braid/retry"
)

// twin makes two scenes over a few thrown numbers, for jobs with thrown programs.
func twin(t *testing.T, d *fixture.Dice, kind int) *fixture.Twin {
	t.Helper()
	nums := make([]int64, 1+d.Below(4))
	for i := range nums {
		nums[i] = fixture.Pick(d, int64(i), int64(100*i), fixture.Edge(d))
	}
	g := fixture.NewTwin(t, d, kind, fixture.Numbers(nums...))
	g.Enters = func(thread int) [2]fixture.Job {
		number, many := d.Below(8), len(nums)
		if d.Below(8) == 0 {
			many = d.Below(many + 1)
		}
		code := fixture.Code(d, d.Below(fixture.Pick(d, 4, 8, 12, 24)), many)
		x, _ := retry.New(g.Scenes[0], 0, thread, number)
		y, _ := retry.New(g.Scenes[1], 0, thread, number)
		j, e := interp.New(x, code, many)
		if e != api.OK {
			t.Fatalf("New(%+v, %d) = %d", code, many, e)
		}
		return [2]fixture.Job{j, newPlain(y, code, many)}
	}
	g.More = func(j fixture.Job) string { return strconv.Itoa(j.(interface{ Place() int }).Place()) }
	return g
}

func TestSideBySide(t *testing.T) {
	d := fixture.NewDice()
	var all fixture.Tally
	for play := range 100 {
		g := twin(t, &d, play%api.Managers)
		g.Play(2+d.Below(4), 300)
		all.Add(g.Tally)
	}
	all.Full(t, []int{api.RowCommit, api.RowQuit},
		[2]int{api.RowCommit, api.EndCommit}, [2]int{api.RowCommit, api.EndKilled}, [2]int{api.RowQuit, api.EndStale},
		[2]int{api.RowQuit, api.EndUser}, [2]int{api.RowQuit, api.EndBad}, [2]int{api.RowQuit, api.EndKilled}, [2]int{api.RowMine, api.EndKilled})
}

// plainNumbers are the committed values' numbers.
func (f *floor) plainNumbers() []int64 {
	var nums []int64
	for _, v := range f.Scene.World.Committed() {
		nums = append(nums, v.Num)
	}
	return nums
}

// leaves has an attempt go that acquired an object and ended: killed, given up or committed.
func (f *floor) leaves(d *fixture.Dice) {
	f.Helper()
	j := f.jobOf(7, 7, []lang.Instr{{Code: lang.Put, Obj: fixture.Num(int64(d.Below(f.Scene.World.Objects()))), X: fixture.Num(int64(d.Below(9)))}, {Code: fixture.Pick(d, lang.Quit, lang.Done)}})
	r := f.Until(j, api.RowAcquire)
	if d.Below(2) == 0 {
		f.Killed(r.Attempt)
		return
	}
	f.Run(j)
}

// 12.7: alone a job is the model's run over the numbers that are committed at its begin.
func TestAloneItIsTheModel(t *testing.T) {
	d := fixture.NewDice()
	seen := map[int]int{}
	for play := range 300 {
		nums := make([]int64, fixture.Pick(&d, 1, 2, 3, 4, 16))
		for x := range nums {
			nums[x] = fixture.Pick(&d, int64(d.Below(4)), int64(d.Below(2000)-1000), fixture.Edge(&d))
		}
		f := layUnder(t, play%api.Managers, 1+d.Below(50), nums...)
		for range 6 {
			if d.Below(2) == 0 {
				f.leaves(&d)
			}
			code := fixture.Code(&d, d.Below(fixture.Pick(&d, 4, 12, 30, 65)), len(nums))
			over := f.plainNumbers()
			alone, e := model.Run(code, over, nil, 200)
			f.OK(e)
			seen[alone.Outcome]++
			if alone.Outcome == api.EndNone { // its owner stays Active: nobody is alone behind it
				break
			}
			f.alone(code, alone)
		}
	}
	for _, end := range []int{api.EndNone, api.EndCommit, api.EndUser, api.EndBad} {
		if seen[end] < 50 {
			t.Errorf("outcome %d was seen %d times", end, seen[end])
		}
	}
}

// alone runs a job alone and holds it against the model's run.
func (f *floor) alone(code []lang.Instr, want api.Alone) {
	f.Helper()
	j := f.jobOf(3, 4, code)
	rows := f.Run(j)
	if a := j.Answer(); a != (api.Answer{Outcome: want.Outcome, Result: want.Result, Tries: 1}) {
		f.Fatalf("%+v: %+v, want %+v", code, a, want)
	}
	if now := f.plainNumbers(); !slices.Equal(now, want.Objects) {
		f.Fatalf("%+v leaves %v, want %v", code, now, want.Objects)
	}
	through := 0
	for k, r := range rows {
		if (r.Kind == api.RowBegin) != (k == 0) || (r.Kind == api.RowReturn) != (k == len(rows)-1) {
			f.Fatalf("%+v: row %d is %q", code, k, fixture.Row(r))
		}
		if r.Kind == api.RowLook || r.Kind == api.RowAgain {
			f.Fatalf("%+v: %q", code, fixture.Row(r))
		}
		if r.Told || r.Kind == api.RowRelease || r.Kind == api.RowLocal || r.End != api.EndNone {
			through++
		}
	}
	if through != want.Count {
		f.Fatalf("%+v: %d instructions, want %d", code, through, want.Count)
	}
}

// 12.6: how many steps each instruction has, worked out of how many entries stand in the table (8.16).
func TestStepsOfInstructions(t *testing.T) {
	d := fixture.NewDice()
	for range 400 {
		many := 1 + d.Below(5)
		code := fixture.Code(&d, d.Below(14), many)
		if forward, _ := lang.Forward(code); !forward {
			continue
		}
		f := layOver(t, make([]int64, many)...)
		j := f.jobOf(0, 0, code)
		held, own := map[int]bool{}, map[int]bool{}
		f.Step(j)
		for r := (api.Row{}); !j.Over(); {
			in, place, n := lang.Instr{Code: lang.Done}, j.Place(), 0
			if place < len(code) {
				in = code[place]
			}
			for through := false; !through; n++ {
				r = f.Step(j)
				through = r.Told || r.Kind == api.RowRelease || r.Kind == api.RowLocal || r.End != api.EndNone
			}
			if want := stepsOf(in, r, held, own); n != want {
				t.Fatalf("%+v at %d: %d steps, want %d", code, place, n, want)
			}
			if r.End != api.EndNone {
				f.Must(j, api.RowReturn)
			}
		}
	}
}

// stepsOf tells how many steps an instruction has that ended with this row, and keeps what is held and own.
func stepsOf(in lang.Instr, r api.Row, held, own map[int]bool) int {
	switch {
	case r.Kind == api.RowQuit:
		return 1
	case in.Code == lang.Done:
		return 2*len(held) + 1
	case in.Code == lang.Drop:
		delete(held, r.Object)
	case in.Code == lang.Get && !held[r.Object] && !own[r.Object]:
		held[r.Object] = true
		return 2 + 2*(len(held)-1) + 1
	case (in.Code == lang.Take || in.Code == lang.Put) && !own[r.Object]:
		delete(held, r.Object)
		own[r.Object] = true
		return 3 + 2*len(held) + 1
	}
	return 1
}

// Where the memory or the world has no room, steps end.
func TestNoRoom(t *testing.T) {
	f := lay(t, api.Polite, 5)
	j := f.job("put @0 1")
	for f.Scene.Memory.Size() < api.MaxCells {
		f.Scene.Memory.Make(0)
	}
	for range 10 {
		f.Open()
		if r, e := j.Step(); r != (api.Row{}) || e == api.OK {
			t.Fatalf("%q, %d", fixture.Row(r), e)
		}
	}
	f = lay(t, api.Polite, 5)
	j = f.job("put @0 1\ndone 4")
	f.Step(j)
	for e := api.OK; e == api.OK; {
		_, e = f.Scene.World.Make(1, 0)
	}
	for range 10 {
		f.Open()
		j.Step()
	}
	if j.Over() {
		t.Errorf("%+v", j.Answer())
	}
}
