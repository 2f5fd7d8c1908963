package intset_test

import (
	"cmp"
	"maps"
	"math"
	"slices"
	"testing"

	"braid/api"
	"braid/fixture"
	"braid/intset"
	"braid/retry"
	"braid/txn"
)

// thrown is any call, with keys that are near one another more often than not.
func thrown(d *fixture.Dice) ask {
	key := func() int64 { return fixture.Pick(d, int64(d.Below(8)), int64(d.Below(8)), fixture.Edge(d)) }
	a := ask{call: 1 + d.Below(6), key: key(), other: key()}
	if d.Below(6) == 0 {
		a.other = a.key
	}
	return a
}

// thrownList is a list of a few keys, a head among them, and nodes that are not linked; some are no lists at all.
func thrownList(d *fixture.Dice) []api.Value {
	var keys []int64
	for k := range int64(8) {
		if d.Below(3) == 0 {
			keys = append(keys, k)
		}
	}
	values := list(2+d.Below(4), keys...)
	if d.Below(3) == 0 {
		for range 1 + d.Below(3) {
			v := &values[d.Below(len(values))]
			v.Num = fixture.Pick(d, v.Num, int64(d.Below(8)), fixture.Edge(d))
			v.Next = fixture.Pick(d, v.Next, d.Below(len(values)), len(values), -2, math.MaxInt)
			v.Dead = d.Below(2) == 0
		}
	}
	return values
}

// Thrown plays, over lists and over what is none, against plain calls: each row, each answer, all around.
func TestSideBySide(t *testing.T) {
	d := fixture.NewDice()
	var all fixture.Tally
	for play := range 300 {
		values := thrownList(&d)
		g := fixture.NewTwin(t, &d, play%api.Managers, values)
		g.Enters = func(thread int) [2]fixture.Job {
			a, number, head, node := thrown(&d), d.Below(8), 0, len(values)-1-d.Below(2)
			if d.Below(20) == 0 {
				head = fixture.Pick(&d, len(values), 1, math.MaxInt)
			}
			if d.Below(8) == 0 || head == node {
				node = len(values) + d.Below(3)
			}
			if head == node {
				head = 0
			}
			x, _ := retry.New(g.Scenes[0], 0, thread, number)
			y, _ := retry.New(g.Scenes[1], 0, thread, number)
			j, e := intset.New(x, a.call, a.key, a.other, head, node)
			if e != api.OK {
				t.Fatalf("New(%v, %d, %d) = %d", a, head, node, e)
			}
			return [2]fixture.Job{j, &plain{x: y, ask: a, head: head, node: node, objects: len(values)}}
		}
		g.Play(2+d.Below(4), 200)
		all.Add(g.Tally)
	}
	all.Full(t, []int{api.RowCommit, api.RowQuit},
		[2]int{api.RowCommit, api.EndCommit}, [2]int{api.RowCommit, api.EndKilled}, [2]int{api.RowQuit, api.EndStale},
		[2]int{api.RowQuit, api.EndBad}, [2]int{api.RowMine, api.EndKilled})
}

// set is a set of numbers.
type set map[int64]struct{}

func setOf(keys []int64) set {
	s := set{}
	for _, k := range keys {
		s[k] = struct{}{}
	}
	return s
}

func (s set) has(k int64) bool {
	_, is := s[k]
	return is
}

func (s set) sorted() []int64 { return slices.Sorted(maps.Keys(s)) }

// does does a call at one moment, and tells what a set answers.
func (s set) does(a ask) (bool, int64) {
	is := s.has(a.key)
	switch a.call {
	case api.JobInsert:
		s[a.key] = struct{}{}
		return !is, 0
	case api.JobRemove:
		delete(s, a.key)
	case api.JobLeast:
		if len(s) == 0 {
			return false, 0
		}
		low := s.sorted()[0]
		delete(s, low)
		return true, low
	case api.JobSize:
		return true, int64(len(s))
	case api.JobMove:
		if !is || s.has(a.other) {
			return false, 0
		}
		delete(s, a.key)
		s[a.other] = struct{}{}
	}
	return is, 0
}

// play is calls over one list, each with a node of its own, and what is seen of them.
type play struct {
	*testing.T
	s     txn.Scene
	keys  []int64 // at first
	calls []*call
	steps int
}

// call is one of a play: its witness is the first step of its last Finish, -1: none.
type call struct {
	ask
	j         *intset.Job
	witness   int
	committed bool
}

// lays makes a play over a list with these keys.
func lays(t *testing.T, kind, patience int, draws []int64, keys []int64, asks []ask) *play {
	t.Helper()
	values := list(len(asks), keys...)
	p := &play{T: t, s: fixture.Scene(t, kind, patience, 0, values, draws), keys: keys}
	for c, a := range asks {
		x, e := retry.New(p.s, 0, c, 0)
		j, f := intset.New(x, a.call, a.key, a.other, 0, 1+len(keys)+c)
		if e != api.OK || f != api.OK {
			t.Fatalf("New = %d, %d", e, f)
		}
		p.calls = append(p.calls, &call{ask: a, j: j, witness: -1})
	}
	return p
}

// step takes a step of a call. Behind it the committed values are a list, whose keys are what the committed calls left.
func (p *play) step(c *call) api.Row {
	p.Helper()
	p.s.Memory.Begin(p.steps, 0)
	r, e := c.j.Step()
	if e != api.OK {
		p.Fatalf("Step = %d", e)
	}
	switch {
	case r.Kind == api.RowBegin || r.Kind == api.RowAgain:
		c.witness = -1
	case r.Phase == api.PhaseFinal && c.witness < 0:
		c.witness = p.steps
	}
	p.steps++
	got, is := intset.Keys(p.s.World.Committed(), 0)
	if !is {
		p.Fatalf("%v: behind %q the values are %+v", c.ask, fixture.Row(r), p.s.World.Committed())
	}
	if r.End != api.EndNone {
		c.committed = r.End == api.EndCommit
		if want := p.left().sorted(); !slices.Equal(got, want) {
			p.Fatalf("%v: behind %q the keys are %v, want %v", c.ask, fixture.Row(r), got, want)
		}
	}
	return r
}

// left is the set that the calls that have committed leave, one behind the other by their witnesses; each that has
// answered is to have answered what the set does.
func (p *play) left() set {
	p.Helper()
	var done []*call
	for _, c := range p.calls {
		if c.committed {
			done = append(done, c)
		}
	}
	slices.SortFunc(done, func(a, b *call) int { return cmp.Compare(a.witness, b.witness) })
	s := setOf(p.keys)
	for _, c := range done {
		yes, result := s.does(c.ask)
		if a := c.j.Answer(); c.j.Over() && (a.Yes != yes || a.Result != result || a.Outcome != api.EndCommit) {
			p.Fatalf("%v answers %+v, a set %v, %d", c.ask, a, yes, result)
		}
	}
	return s
}

// ends lets all calls come to their answers, one after the other's outcome, and looks at them all.
func (p *play) ends() {
	p.Helper()
	for _, c := range p.calls {
		for n := 0; !c.j.Over(); n++ {
			if p.step(c); n > 20000 {
				p.Fatalf("%v has no end", c.ask)
			}
		}
	}
	p.left()
}

// some are keys of a thrown list.
func some(d *fixture.Dice) []int64 {
	s := set{}
	for range d.Below(6) {
		s[fixture.Pick(d, int64(d.Below(8)), int64(d.Below(8)), fixture.Edge(d))] = struct{}{}
	}
	return s.sorted()
}

// P13.8: calls side by side, in thrown orders, under each manager.
func TestSet(t *testing.T) {
	d := fixture.NewDice()
	failed, said := 0, map[api.Answer]int{}
	for n := range 2000 {
		var asks []ask
		for range 2 + d.Below(6) {
			asks = append(asks, thrown(&d))
		}
		draws := make([]int64, 400)
		for i := range draws {
			draws[i] = int64(d.Roll())
		}
		p := lays(t, n%api.Managers, fixture.Pick(&d, 1, 3, 9, 40), draws, some(&d), asks)
		most := fixture.Pick(&d, 1, 4, 20)
		for range 60 {
			c := fixture.Pick(&d, p.calls...)
			for range 1 + d.Below(most) {
				if !c.j.Over() {
					p.step(c)
				}
			}
		}
		p.ends()
		for _, c := range p.calls {
			failed += c.j.Answer().Tries - 1
			said[api.Answer{Outcome: c.call, Yes: c.j.Answer().Yes}]++
		}
	}
	if failed < 1000 {
		t.Errorf("%d attempts failed", failed)
	}
	for call := api.JobInsert; call <= api.JobMove; call++ {
		if yes, no := said[api.Answer{Outcome: call, Yes: true}], said[api.Answer{Outcome: call}]; yes < 50 || no < 50 && call != api.JobSize {
			t.Errorf("call %d said yes %d times and no %d times", call, yes, no)
		}
	}
}

// Two calls, the one of which goes so many steps, then the other one so many, then each to its end: for all such numbers.
func TestTwoSwitches(t *testing.T) {
	asks := []ask{insert(6), remove(5), remove(8), contains(8), least(), size(), move(5, 6)}
	for _, a := range asks {
		t.Run(a.String(), func(t *testing.T) {
			t.Parallel()
			for _, b := range asks {
				twoSwitches(t, a, b)
			}
		})
	}
}

func twoSwitches(t *testing.T, a, b ask) {
	t.Helper()
	ahead := true
	for i := 1; ahead; i++ {
		behind := true
		for k := 1; behind; k++ {
			p := lays(t, api.Polite, 1, nil, []int64{5, 8}, []ask{a, b})
			ahead = p.goesOn(p.calls[0], i)
			behind = p.goesOn(p.calls[1], k)
			p.ends()
		}
	}
}

// goesOn takes so many steps of a call, false: it has answered ahead of them.
func (p *play) goesOn(c *call, steps int) bool {
	p.Helper()
	for range steps {
		if c.j.Over() {
			return false
		}
		p.step(c)
	}
	return true
}

// P13.9: a call alone answers in one attempt, whoever owned the objects ahead of it.
func TestAlone(t *testing.T) {
	d := fixture.NewDice()
	for n := range 600 {
		keys := some(&d)
		f := layUnder(t, n%api.Managers, 1+d.Below(20), list(12, keys...))
		s := setOf(keys)
		for c := range 12 {
			a, node := thrown(&d), 1+len(keys)+c
			if d.Below(3) == 0 { // it is killed wherever it is, and stays so
				j := f.jobOf(7, 7, a, 0, node)
				r := f.Step(j)
				for range d.Below(30) {
					if r.End == api.EndNone {
						r = f.Step(j)
					}
				}
				if r.End == api.EndNone {
					f.Killed(r.Attempt)
					continue
				}
				s.does(a)
				continue
			}
			j := f.jobOf(3, 4, a, 0, node)
			for _, r := range f.Run(j) {
				if r.Kind == api.RowLook || r.Kind == api.RowAgain || r.Try != 1 {
					t.Fatalf("%v: %q", a, fixture.Row(r))
				}
			}
			said, result := s.does(a)
			f.Answers(j, api.Answer{Outcome: api.EndCommit, Yes: said, Result: result, Tries: 1})
			f.keys(s.sorted()...)
		}
	}
}
