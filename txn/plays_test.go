package txn_test

import (
	"math"
	"slices"
	"testing"

	"braid/api"
	"braid/cell"
	"braid/cm"
	"braid/fixture"
	"braid/locator"
	"braid/txn"
	"braid/word"
)

// stage is two scenes of one kind: the one for attempts of the program, the other one for plain ones.
type stage struct {
	*testing.T
	dice  *fixture.Dice
	s, q  txn.Scene
	step  int
	rows  int // of the log, as far as they were looked at
	pairs []*pair
	watch *watch
}

// pair is an attempt and its plain one, which are asked for the same.
type pair struct {
	a *txn.Attempt
	p *plain
	*record
}

func twin(t *testing.T, d *fixture.Dice, kind, patience, objects int) *stage {
	t.Helper()
	values := make([]api.Value, objects)
	for i := range values {
		values[i] = api.Value{Num: int64(100 * i), Next: i - 1, Dead: i%2 == 1}
	}
	draws := make([]int64, d.Below(60))
	for i := range draws {
		draws[i] = int64(d.Roll())
	}
	scene := func() txn.Scene {
		m := cell.New()
		w, e := locator.New(m, values)
		c, f := cm.New(kind, patience)
		if e != api.OK || f != api.OK {
			t.Fatalf("New = %d, %d", e, f)
		}
		return txn.Scene{Memory: m, World: w, Manager: c, Draws: word.NewDraws(draws)}
	}
	g := &stage{T: t, dice: d, s: scene(), q: scene()}
	g.watch = newWatch(t, g.s)
	return g
}

// enters puts a new pair on the stage. Under a manager that keeps none its priority may be no cell.
func (g *stage) enters(thread int) *pair {
	g.Helper()
	rank := int64(0)
	if g.dice.Below(3) == 0 {
		rank = int64(api.MaxRank - 4 + g.dice.Below(6))
	}
	c, e := g.s.Memory.Make(rank)
	g.q.Memory.Make(rank)
	if e != api.OK {
		g.Fatalf("Make = %d", e)
	}
	if !g.s.Manager.Keeps() && g.dice.Below(4) == 0 {
		c = -1
	}
	own := api.Owner{Thread: thread, Stamp: int64(g.dice.Below(6)), Priority: c}
	a, e := txn.New(g.s, own, rank)
	if e != api.OK {
		g.Fatalf("New = %d", e)
	}
	return &pair{a: a, p: newPlain(g.q, own, rank), record: g.watch.born(a.Number())}
}

func (g *stage) open() {
	g.s.Memory.Begin(g.step, 0)
	g.q.Memory.Begin(g.step, 0)
	g.step++
}

// same looks that the two of a pair, and the two scenes, tell the same.
func (g *stage) same(c *pair) {
	g.Helper()
	if c.a.Number() != c.p.number || c.a.State() != c.p.state || c.a.Rank() != c.p.rank || c.a.Reads() != len(c.p.table) {
		g.Fatalf("attempt %d, state %d, rank %d, reads %d; want %d, %d, %d, %d", c.a.Number(), c.a.State(), c.a.Rank(),
			c.a.Reads(), c.p.number, c.p.state, c.p.rank, len(c.p.table))
	}
	for o := -1; o <= g.s.World.Objects(); o++ {
		if _, own := c.p.mine[o]; c.a.Owns(o) != own {
			g.Fatalf("Owns(%d) = %v", o, !own)
		}
	}
	if g.s.Draws.Taken() != g.q.Draws.Taken() || g.s.Memory.Size() != g.q.Memory.Size() || g.s.Memory.Took() != g.q.Memory.Took() {
		g.Fatalf("%d, %d, %v; want %d, %d, %v", g.s.Draws.Taken(), g.s.Memory.Size(), g.s.Memory.Took(),
			g.q.Draws.Taken(), g.q.Memory.Size(), g.q.Memory.Took())
	}
	if !slices.Equal(g.s.World.Committed(), g.q.World.Committed()) {
		g.Fatalf("committed %v, want %v", g.s.World.Committed(), g.q.World.Committed())
	}
}

// steps takes a step of a pair, within an open one of the memories or not.
func (g *stage) steps(c *pair, open bool) {
	g.Helper()
	ahead := g.watch.now()
	if open {
		g.open()
	} else { // one that has had its access, at nothing of the attempts'
		g.open()
		g.s.Memory.Load(1)
		g.q.Memory.Load(1)
	}
	g.fresh()
	r, e := c.a.Step()
	want, wantE := c.p.Step()
	if r != want || e != wantE {
		g.Fatalf("step %d: %q %+v, %d, want %q, %d", g.step, fixture.Row(r), r, e, fixture.Row(want), wantE)
	}
	g.access(r, g.fresh())
	if e == api.OK {
		g.watch.sees(c.record, r, ahead)
	}
	g.same(c)
}

// fresh tells how many rows the log has that were not looked at yet.
func (g *stage) fresh() int {
	n := 0
	for range g.s.Memory.Tail(g.rows) {
		n++
	}
	g.rows += n
	return n
}

// access looks that a step took one access at most, that it is the row's, and that none but the kinds that may wrote.
func (g *stage) access(r api.Row, rows int) {
	g.Helper()
	if rows > 1 || rows == 1 && r.Cell == -1 || rows == 0 && r.Cell != -1 && r != (api.Row{}) {
		g.Fatalf("%q took %d accesses", fixture.Row(r), rows)
	}
	if rows == 0 {
		return
	}
	t := g.s.Memory.Took()
	if t.Cell != r.Cell || t.Seen != r.Seen || t.Wrote != r.Wrote || t.Done != r.Done {
		g.Fatalf("%q took %v", fixture.Row(r), t)
	}
	switch r.Kind {
	case api.RowAcquire, api.RowKill, api.RowUp, api.RowDown, api.RowCommit, api.RowQuit:
		if t.Kind != api.AccSwap {
			g.Fatalf("%q took %v", fixture.Row(r), t)
		}
	case api.RowBoost:
		if t.Kind != api.AccAdd {
			g.Fatalf("%q took %v", fixture.Row(r), t)
		}
	default:
		if t.Kind != api.AccLoad {
			g.Fatalf("%q took %v", fixture.Row(r), t)
		}
	}
}

var wrong = []int{math.MinInt, -1, 40, math.MaxInt}

// asks asks the two of a pair for the same.
func (g *stage) asks(c *pair) {
	g.Helper()
	x := g.dice.Below(g.s.World.Objects())
	if g.dice.Below(12) == 0 {
		x = wrong[g.dice.Below(len(wrong))]
	}
	var got, want api.Errno
	var n, m int
	switch k := g.dice.Below(40); {
	case k < 14:
		got, want = c.a.Read(x), c.p.Read(x)
	case k < 24:
		got, want = c.a.Write(x), c.p.Write(x)
	case k < 31:
		v := api.Value{Num: int64(g.dice.Below(1000)), Next: g.dice.Below(5) - 1, Dead: g.dice.Below(2) == 0}
		got, want = c.a.Put(x, v), c.p.Put(x, v)
	case k < 34:
		n, got = c.a.Release(x)
		m, want = c.p.Release(x)
		if got == api.OK && n >= 0 {
			c.record.releases(x, n)
		}
	case k < 38:
		got, want = c.a.Finish(), c.p.Finish()
	default:
		why := g.dice.Below(8) - 1
		got, want = c.a.Quit(why), c.p.Quit(why)
	}
	if got != want || n != m {
		g.Fatalf("asked: %d, %d, want %d, %d", n, got, m, want)
	}
	g.same(c)
}

// kills has somebody else turn the status of a pair's attempt.
func (g *stage) kills(c *pair) {
	g.open()
	g.s.World.Kill(c.a.Number())
	g.q.World.Kill(c.p.number)
	g.watch.goesOn()
	g.same(c)
}

// goes is one move of a play.
func (g *stage) goes() {
	g.Helper()
	i := g.dice.Below(len(g.pairs))
	c := g.pairs[i]
	switch k := g.dice.Below(100); {
	case k < 2:
		g.kills(c)
	case k < 6:
		g.steps(c, false)
	case k < 10 || c.a.State() == api.StateOpen:
		g.asks(c)
	case c.a.State() == api.StateOver && k < 50:
		g.pairs[i] = g.enters(i)
	default:
		for range 1 + g.dice.Below(6) { // some of one attempt's own, so that operations come through
			g.steps(c, true)
		}
	}
}

func TestSideBySide(t *testing.T) {
	kinds := map[int]int{} // how often each kind of row was seen, with each end
	d := fixture.NewDice()
	for play := range 260 {
		g := twin(t, &d, play%api.Managers, []int{1, 2, 5, 9, 60}[d.Below(5)], 1+d.Below(4))
		for thread := range 2 + d.Below(4) {
			g.pairs = append(g.pairs, g.enters(thread))
		}
		for range 900 {
			g.goes()
		}
		g.watch.skew()
		if !slices.Equal(g.s.Memory.Log(), g.q.Memory.Log()) {
			t.Fatal("the logs differ")
		}
		for k, n := range g.watch.kinds {
			kinds[k] += n
		}
	}
	for k := api.RowPoint; k < api.RowReturn; k++ {
		if kinds[k*10] < 100 && k != api.RowCommit && k != api.RowQuit {
			t.Errorf("%s was seen %d times", fixture.Kind(k), kinds[k*10])
		}
	}
	for _, k := range []int{api.RowCommit*10 + api.EndCommit, api.RowCommit*10 + api.EndKilled, api.RowQuit*10 + api.EndStale,
		api.RowQuit*10 + api.EndUser, api.RowQuit*10 + api.EndBad, api.RowQuit*10 + api.EndKilled, api.RowMine*10 + api.EndKilled,
		api.RowLocal * 10} {
		if kinds[k] < 40 {
			t.Errorf("kind %d with end %d was seen %d times", k/10, k%10, kinds[k])
		}
	}
}
