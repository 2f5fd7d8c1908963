package interp_test

import (
	"slices"
	"testing"

	"braid/api"
	"braid/fixture"
	"braid/interp"
	"braid/lang"
	"braid/model"
	"braid/retry"
	"braid/txn"
)

// stage is two scenes of one kind: the one for jobs of the program, the other one for plain ones.
type stage struct {
	*testing.T
	dice  *fixture.Dice
	s, q  txn.Scene
	step  int
	rows  int // of the log, as far as they were counted
	pairs []*pair
	seen  map[[2]int]int
}

// pair is a job and its plain one.
type pair struct {
	j     *interp.Job
	p     *plain
	steps int
}

func twin(t *testing.T, d *fixture.Dice, kind int) *stage {
	t.Helper()
	nums := make([]int64, 1+d.Below(4))
	for i := range nums {
		nums[i] = fixture.Pick(d, int64(i), int64(100*i), fixture.Edge(d))
	}
	draws := make([]int64, d.Below(60))
	for i := range draws {
		draws[i] = int64(d.Roll())
	}
	patience := fixture.Pick(d, 1, 2, 5, 9, 60)
	return &stage{
		T: t, dice: d, seen: map[[2]int]int{},
		s: fixture.Scene(t, kind, patience, 0, fixture.Numbers(nums...), draws), q: fixture.Scene(t, kind, patience, 0, fixture.Numbers(nums...), draws),
	}
}

// enters makes a new pair.
func (g *stage) enters(thread int) *pair {
	g.Helper()
	number, many := g.dice.Below(8), g.s.World.Objects()
	if g.dice.Below(8) == 0 {
		many = g.dice.Below(many + 1)
	}
	code := fixture.Code(g.dice, g.dice.Below(fixture.Pick(g.dice, 4, 8, 12, 24)), many)
	x, _ := retry.New(g.s, 0, thread, number)
	y, _ := retry.New(g.q, 0, thread, number)
	j, e := interp.New(x, code, many)
	if e != api.OK {
		g.Fatalf("New(%+v, %d) = %d", code, many, e)
	}
	c := &pair{j: j, p: newPlain(y, code, many)}
	g.same(c)
	return c
}

func (g *stage) open() {
	g.s.Memory.Begin(g.step, 0)
	g.q.Memory.Begin(g.step, 0)
	g.step++
}

// same looks that the two of a pair, and the two scenes, tell the same.
func (g *stage) same(c *pair) {
	g.Helper()
	if got, want := sightOf(c.j), c.p.sight(); got != want {
		g.Fatalf("tells %+v, want %+v", got, want)
	}
	if got, want := aroundOf(g.s), aroundOf(g.q); got != want {
		g.Fatalf("around %+v, want %+v", got, want)
	}
}

// fresh tells how many rows the log has that were not counted yet.
func (g *stage) fresh() int {
	n := 0
	for range g.s.Memory.Tail(g.rows) {
		n++
	}
	g.rows += n
	return n
}

// steps takes a step of a pair, within an open one of the memories or not.
func (g *stage) steps(c *pair, open bool) {
	g.Helper()
	g.open()
	if !open { // it has had its access, at nothing of the jobs'
		g.s.Memory.Load(2)
		g.q.Memory.Load(2)
	}
	g.fresh()
	r, e := c.j.Step()
	want, wantE := c.p.step()
	if r != want || e != wantE {
		g.Fatalf("step %d: %+v, %d, want %+v, %d", g.step, r, e, want, wantE)
	}
	took := g.fresh()
	if took > 1 || (took == 1) != (e == api.OK && r.Cell != -1) {
		g.Fatalf("%q, %d: %d accesses", fixture.Row(r), e, took)
	}
	if e == api.OK {
		g.seen[[2]int{r.Kind, r.End}]++
		c.steps++
	}
	g.same(c)
}

// goes is one move of a play.
func (g *stage) goes() {
	g.Helper()
	i := g.dice.Below(len(g.pairs))
	c := g.pairs[i]
	switch k := g.dice.Below(100); {
	case k < 2:
		g.open()
		g.s.World.Kill(c.p.x.Number())
		g.q.World.Kill(c.p.x.Number())
		g.same(c)
	case k < 8:
		g.steps(c, false)
	case k < 50 && c.j.Over() || k < 10 && c.steps > 150: // one that goes round in a circle is left behind
		g.pairs[i] = g.enters(i)
	default:
		for range 1 + g.dice.Below(6) {
			g.steps(c, true)
		}
	}
}

func TestSideBySide(t *testing.T) {
	seen := map[[2]int]int{}
	d := fixture.NewDice()
	tries := 0
	for play := range 100 {
		g := twin(t, &d, play%api.Managers)
		for thread := range 2 + d.Below(4) {
			g.pairs = append(g.pairs, g.enters(thread))
		}
		for range 300 {
			g.goes()
		}
		if !slices.Equal(g.s.Memory.Log(), g.q.Memory.Log()) {
			t.Fatal("the logs differ")
		}
		for k, n := range g.seen {
			seen[k] += n
		}
		for _, c := range g.pairs {
			tries = max(tries, c.j.Answer().Tries)
		}
	}
	for k := api.RowBegin; k < api.RowKinds; k++ {
		if n := seen[[2]int{k, api.EndNone}]; n < 40 && k != api.RowCommit && k != api.RowQuit {
			t.Errorf("%s was seen %d times", fixture.Kind(k), n)
		}
	}
	for _, k := range [][2]int{{api.RowCommit, api.EndCommit}, {api.RowCommit, api.EndKilled}, {api.RowQuit, api.EndStale},
		{api.RowQuit, api.EndUser}, {api.RowQuit, api.EndBad}, {api.RowQuit, api.EndKilled}, {api.RowMine, api.EndKilled}} {
		if seen[k] < 5 {
			t.Errorf("%s with the end %s was seen %d times", fixture.Kind(k[0]), fixture.End(k[1]), seen[k])
		}
	}
	if tries < 3 {
		t.Errorf("no job had more than %d tries", tries)
	}
}

// plainNumbers are the committed values' numbers.
func (f *floor) plainNumbers() []int64 {
	var nums []int64
	for _, v := range f.s.World.Committed() {
		nums = append(nums, v.Num)
	}
	return nums
}

// leaves has an attempt go that acquired an object and ended: killed, given up or committed.
func (f *floor) leaves(d *fixture.Dice) {
	f.Helper()
	j := f.jobOf(7, 7, []lang.Instr{{Code: lang.Put, Obj: fixture.Num(int64(d.Below(f.s.World.Objects()))), X: fixture.Num(int64(d.Below(9)))}, {Code: fixture.Pick(d, lang.Quit, lang.Done)}})
	r := f.until(j, api.RowAcquire)
	if d.Below(2) == 0 {
		f.killed(r.Attempt)
		return
	}
	f.run(j)
}

// 12.7: alone a job is the model's run over the numbers that are committed at its begin.
func TestAloneItIsTheModel(t *testing.T) {
	d := fixture.NewDice()
	seen := map[int]int{}
	for play := range 300 {
		nums := make([]int64, fixture.Pick(&d, 1, 2, 3, 4, 16))
		for x := range nums {
			nums[x] = fixture.Pick(&d, int64(d.Below(4)), int64(d.Below(2000)-1000), fixture.Edge(&d))
		}
		f := &floor{T: t, s: fixture.Scene(t, play%api.Managers, 1+d.Below(50), 0, fixture.Numbers(nums...), nil)}
		for range 6 {
			if d.Below(2) == 0 {
				f.leaves(&d)
			}
			code := fixture.Code(&d, d.Below(fixture.Pick(&d, 4, 12, 30, 65)), len(nums))
			over := f.plainNumbers()
			alone, e := model.Run(code, over, nil, 200)
			f.ok(e)
			seen[alone.Outcome]++
			if alone.Outcome == api.EndNone { // its owner stays Active: nobody is alone behind it
				break
			}
			f.alone(code, alone)
		}
	}
	for _, end := range []int{api.EndNone, api.EndCommit, api.EndUser, api.EndBad} {
		if seen[end] < 50 {
			t.Errorf("outcome %d was seen %d times", end, seen[end])
		}
	}
}

// alone runs a job alone and holds it against the model's run.
func (f *floor) alone(code []lang.Instr, want api.Alone) {
	f.Helper()
	j := f.jobOf(3, 4, code)
	rows := f.run(j)
	if a := j.Answer(); a != (api.Answer{Outcome: want.Outcome, Result: want.Result, Tries: 1}) {
		f.Fatalf("%+v: %+v, want %+v", code, a, want)
	}
	if now := f.plainNumbers(); !slices.Equal(now, want.Objects) {
		f.Fatalf("%+v leaves %v, want %v", code, now, want.Objects)
	}
	through := 0
	for k, r := range rows {
		if (r.Kind == api.RowBegin) != (k == 0) || (r.Kind == api.RowReturn) != (k == len(rows)-1) {
			f.Fatalf("%+v: row %d is %q", code, k, fixture.Row(r))
		}
		if r.Kind == api.RowLook || r.Kind == api.RowAgain {
			f.Fatalf("%+v: %q", code, fixture.Row(r))
		}
		if r.Told || r.Kind == api.RowRelease || r.Kind == api.RowLocal || r.End != api.EndNone {
			through++
		}
	}
	if through != want.Count {
		f.Fatalf("%+v: %d instructions, want %d", code, through, want.Count)
	}
}

// 12.6: how many steps each instruction has, worked out of how many entries stand in the table (8.16).
func TestStepsOfInstructions(t *testing.T) {
	d := fixture.NewDice()
	for range 400 {
		many := 1 + d.Below(5)
		code := fixture.Code(&d, d.Below(14), many)
		if forward, _ := lang.Forward(code); !forward {
			continue
		}
		f := layOver(t, make([]int64, many)...)
		j := f.jobOf(0, 0, code)
		held, own := map[int]bool{}, map[int]bool{}
		f.step(j)
		for r := (api.Row{}); !j.Over(); {
			in, place, n := lang.Instr{Code: lang.Done}, j.Place(), 0
			if place < len(code) {
				in = code[place]
			}
			for through := false; !through; n++ {
				r = f.step(j)
				through = r.Told || r.Kind == api.RowRelease || r.Kind == api.RowLocal || r.End != api.EndNone
			}
			if want := stepsOf(in, r, held, own); n != want {
				t.Fatalf("%+v at %d: %d steps, want %d", code, place, n, want)
			}
			if r.End != api.EndNone {
				f.must(j, api.RowReturn)
			}
		}
	}
}

// stepsOf tells how many steps an instruction has that ended with this row, and keeps what is held and own.
func stepsOf(in lang.Instr, r api.Row, held, own map[int]bool) int {
	switch {
	case r.Kind == api.RowQuit:
		return 1
	case in.Code == lang.Done:
		return 2*len(held) + 1
	case in.Code == lang.Drop:
		delete(held, r.Object)
	case in.Code == lang.Get && !held[r.Object] && !own[r.Object]:
		held[r.Object] = true
		return 2 + 2*(len(held)-1) + 1
	case (in.Code == lang.Take || in.Code == lang.Put) && !own[r.Object]:
		delete(held, r.Object)
		own[r.Object] = true
		return 3 + 2*len(held) + 1
	}
	return 1
}

// Where the memory or the world has no room, steps end.
func TestNoRoom(t *testing.T) {
	f := lay(t, api.Polite, 5)
	j := f.job("put @0 1")
	for f.s.Memory.Size() < api.MaxCells {
		f.s.Memory.Make(0)
	}
	for range 10 {
		f.open()
		if r, e := j.Step(); r != (api.Row{}) || e == api.OK {
			t.Fatalf("%q, %d", fixture.Row(r), e)
		}
	}
	f = lay(t, api.Polite, 5)
	j = f.job("put @0 1\ndone 4")
	f.step(j)
	for e := api.OK; e == api.OK; {
		_, e = f.s.World.Make(1, 0)
	}
	for range 10 {
		f.open()
		j.Step()
	}
	if j.Over() {
		t.Errorf("%+v", j.Answer())
	}
}
