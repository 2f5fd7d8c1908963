package retry_test

import (
	"math"
	"slices"
	"testing"

	"braid/api"
	"braid/fixture"
	"braid/retry"
	"braid/txn"
)

// stage is two scenes of one kind: the one for transactions of the program, the other one for plain ones.
type stage struct {
	*testing.T
	dice   *fixture.Dice
	s, q   txn.Scene
	step   int
	rows   int // of the log, as far as they were counted
	clocks []clock
	pairs  []*pair // those on the stage
	gone   []*pair // those that have left it
	newest int     // the greatest number of an attempt so far
	seen   map[[2]int]int
}

// clock is a cell, what it held at first, and how many have begun by it.
type clock struct {
	cell  int
	first int64
	begun int64
}

// pair is a transaction and its plain one, which are asked for the same.
type pair struct {
	x     *retry.Transaction
	p     *plain
	clock int
	rank  int64 // as it was last seen
	over  sight // what it told as it was over
}

func twin(t *testing.T, d *fixture.Dice, kind int) *stage {
	t.Helper()
	values := make([]api.Value, 1+d.Below(4))
	for i := range values {
		values[i] = api.Value{Num: int64(100 * i), Next: i - 1, Dead: i%2 == 1}
	}
	draws := make([]int64, d.Below(60))
	for i := range draws {
		draws[i] = int64(d.Roll())
	}
	firsts := []int64{0, -1, 5, math.MaxInt64 - 3}
	first, patience := firsts[d.Below(len(firsts))], []int{1, 2, 5, 9, 60}[d.Below(5)]
	g := &stage{T: t, dice: d, clocks: []clock{{0, first, 0}}, seen: map[[2]int]int{}}
	g.s = fixture.Scene(t, kind, patience, first, values, draws)
	g.q = fixture.Scene(t, kind, patience, first, values, draws)
	for range d.Below(3) {
		first = firsts[d.Below(len(firsts))]
		c, _ := g.s.Memory.Make(first)
		g.q.Memory.Make(first)
		g.clocks = append(g.clocks, clock{c, first, 0})
	}
	return g
}

// enters puts a new pair on the stage.
func (g *stage) enters(thread int) *pair {
	g.Helper()
	k, job := g.dice.Below(len(g.clocks)), g.dice.Below(8)
	x, e := retry.New(g.s, g.clocks[k].cell, thread, job)
	if e != api.OK {
		g.Fatalf("New = %d", e)
	}
	c := &pair{x: x, p: &plain{s: g.q, clock: g.clocks[k].cell, thread: thread, job: job}, clock: k}
	g.same(c)
	return c
}

func (g *stage) open() {
	g.s.Memory.Begin(g.step, 0)
	g.q.Memory.Begin(g.step, 0)
	g.step++
}

// same looks that the two of a pair, and the two scenes, tell the same.
func (g *stage) same(c *pair) {
	g.Helper()
	got, want := sightOf(c.x, g.s.World.Objects()), c.p.sight()
	if got != want {
		g.Fatalf("tells %+v, want %+v", got, want)
	}
	if got, want := nearOf(g.s), nearOf(g.q); got != want {
		g.Fatalf("around %+v, want %+v", got, want)
	}
	g.ranks()
}

// ranks holds all ranks against 9.7.
func (g *stage) ranks() {
	g.Helper()
	for _, c := range g.pairs {
		rank := c.x.Rank()
		if rank < c.rank || rank > api.MaxRank || rank > 0 && !g.s.Manager.Keeps() {
			g.Fatalf("the rank goes from %d to %d", c.rank, rank)
		}
		c.rank = rank
		if c.x.Tries() == 0 {
			continue
		}
		own, _ := g.s.World.Owner(c.x.Number())
		if held, e := g.s.Memory.Peek(own.Priority); held != rank || e != api.OK {
			g.Fatalf("rank %d, the priority cell holds %d, %d", rank, held, e)
		}
	}
}

// steps takes a step of a pair, within an open one of the memories or not.
func (g *stage) steps(c *pair, open bool) {
	g.Helper()
	g.open()
	if !open { // it has had its access, at nothing of the transactions'
		g.s.Memory.Load(2)
		g.q.Memory.Load(2)
	}
	kind, end := c.p.last()
	own := sightOf(c.x, g.s.World.Objects())
	g.fresh()
	r, e := c.x.Step()
	want, wantE := c.p.step()
	if r != want || e != wantE {
		g.Fatalf("step %d: %+v, %d, want %+v, %d", g.step, r, e, want, wantE)
	}
	took := g.fresh()
	if e != api.OK {
		if now := sightOf(c.x, g.s.World.Objects()); now != own || took > 0 {
			g.Fatalf("a refused step: from %+v to %+v", own, now)
		}
	} else {
		g.row(c, r, kind, end)
		if took > 1 || (took == 1) != (r.Cell != -1) {
			g.Fatalf("%q took %d accesses", fixture.Row(r), took)
		}
	}
	g.same(c)
}

// fresh tells how many rows the log has that were not counted yet.
func (g *stage) fresh() int {
	n := 0
	for range g.s.Memory.Tail(g.rows) {
		n++
	}
	g.rows += n
	return n
}

// row holds a row against 9.6, 9.8 and 9.9: kind and end are those of the row before.
func (g *stage) row(c *pair, r api.Row, kind, end int) {
	g.Helper()
	g.seen[[2]int{r.Kind, r.End}]++
	switch r.Kind {
	case api.RowBegin:
		k := &g.clocks[c.clock]
		if kind != api.RowStutter || c.x.Tries() != 1 || r.Seen != k.first+k.begun || c.x.Stamp() != r.Seen {
			g.Fatalf("%q behind %s: stamp %d of %+v", fixture.Row(r), fixture.Kind(kind), c.x.Stamp(), *k)
		}
		k.begun++
	case api.RowAgain:
		if end != api.EndStale && end != api.EndKilled {
			g.Fatalf("%q behind the end %d", fixture.Row(r), end)
		}
		was, _ := g.s.World.Owner(c.p.attempts[0].Number())
		if now, _ := g.s.World.Owner(r.Attempt); now != was {
			g.Fatalf("%q: the owner goes from %+v to %+v", fixture.Row(r), was, now)
		}
	default:
		return
	}
	if r.Attempt <= g.newest || c.x.Reads() != 0 || c.x.State() != api.StateOpen {
		g.Fatalf("%q: attempt %d behind %d, %d reads", fixture.Row(r), r.Attempt, g.newest, c.x.Reads())
	}
	g.newest = r.Attempt
}

var wrong = []int{math.MinInt, -1, 40, math.MaxInt}

// asks asks the two of a pair for the same.
func (g *stage) asks(c *pair) {
	g.Helper()
	x := g.dice.Below(g.s.World.Objects())
	if g.dice.Below(12) == 0 {
		x = wrong[g.dice.Below(len(wrong))]
	}
	var n, m int
	var got, want api.Errno
	plainly := func(begins bool, do func(a *txn.Attempt) api.Errno) {
		m, want = c.p.ask(begins, func(a *txn.Attempt) (int, api.Errno) { return 0, do(a) })
	}
	switch k := g.dice.Below(40); {
	case k < 14:
		got = c.x.Read(x)
		plainly(true, func(a *txn.Attempt) api.Errno { return a.Read(x) })
	case k < 24:
		got = c.x.Write(x)
		plainly(true, func(a *txn.Attempt) api.Errno { return a.Write(x) })
	case k < 31:
		v := api.Value{Num: int64(g.dice.Below(1000)), Next: g.dice.Below(5) - 1, Dead: g.dice.Below(2) == 0}
		got = c.x.Put(x, v)
		plainly(false, func(a *txn.Attempt) api.Errno { return a.Put(x, v) })
	case k < 34:
		n, got = c.x.Release(x)
		m, want = c.p.release(x)
	case k < 38:
		got = c.x.Finish()
		plainly(true, (*txn.Attempt).Finish)
	default:
		why := g.dice.Below(8) - 1
		got = c.x.Quit(why)
		plainly(true, func(a *txn.Attempt) api.Errno { return a.Quit(why) })
	}
	if got != want || n != m {
		g.Fatalf("asked: %d, %d, want %d, %d", n, got, m, want)
	}
	g.same(c)
}

// kills has somebody else turn the status of a pair's attempt.
func (g *stage) kills(c *pair) {
	g.open()
	g.s.World.Kill(c.x.Number())
	g.q.World.Kill(c.x.Number())
	g.same(c)
}

// goes is one move of a play.
func (g *stage) goes() {
	g.Helper()
	i := g.dice.Below(len(g.pairs))
	c := g.pairs[i]
	switch k := g.dice.Below(100); {
	case k < 2:
		g.kills(c)
	case k < 6:
		g.steps(c, false)
	case k < 10 || c.x.State() == api.StateOpen:
		g.asks(c)
	case c.x.State() == api.StateOver && k < 50:
		c.over = sightOf(c.x, g.s.World.Objects())
		g.gone = append(g.gone, c)
		g.pairs[i] = g.enters(i)
	default:
		for range 1 + g.dice.Below(6) { // some of one transaction's own, so that operations come through
			g.steps(c, true)
		}
	}
}

// ends looks that those that were over tell what they told then (9.8), and that the two scenes had the same accesses.
func (g *stage) ends() {
	g.Helper()
	for _, c := range g.gone {
		if now := sightOf(c.x, g.s.World.Objects()); now != c.over || now.state != api.StateOver {
			g.Fatalf("from %+v to %+v", c.over, now)
		}
		begins, agains := 0, 0
		for _, v := range c.p.events {
			switch v.Kind {
			case api.RowBegin:
				begins++
			case api.RowAgain:
				agains++
			}
		}
		if begins != 1 || agains != c.x.Tries()-1 {
			g.Fatalf("%d RowBegin, %d RowAgain, %d tries", begins, agains, c.x.Tries())
		}
	}
	if !slices.Equal(g.s.Memory.Log(), g.q.Memory.Log()) {
		g.Fatal("the logs differ")
	}
}

func TestSideBySide(t *testing.T) {
	seen := map[[2]int]int{}
	d := fixture.NewDice()
	tries := 0
	for play := range 120 {
		g := twin(t, &d, play%api.Managers)
		for thread := range 2 + d.Below(4) {
			g.pairs = append(g.pairs, g.enters(thread))
		}
		for range 500 {
			g.goes()
		}
		g.ends()
		for k, n := range g.seen {
			seen[k] += n
		}
		for _, c := range g.gone {
			tries = max(tries, c.x.Tries())
		}
	}
	for k := api.RowBegin; k < api.RowReturn; k++ {
		if n := seen[[2]int{k, api.EndNone}]; n < 40 && k != api.RowRelease && k != api.RowCommit && k != api.RowQuit {
			t.Errorf("%s was seen %d times", fixture.Kind(k), n)
		}
	}
	for _, k := range [][2]int{{api.RowCommit, api.EndCommit}, {api.RowCommit, api.EndKilled}, {api.RowQuit, api.EndStale},
		{api.RowQuit, api.EndUser}, {api.RowQuit, api.EndBad}, {api.RowQuit, api.EndKilled}, {api.RowMine, api.EndKilled}} {
		if seen[k] < 20 {
			t.Errorf("%s with the end %s was seen %d times", fixture.Kind(k[0]), fixture.End(k[1]), seen[k])
		}
	}
	if tries < 4 {
		t.Errorf("no transaction had more than %d tries", tries)
	}
}
