package cm_test

import (
	"testing"

	"braid/api"
	"braid/cm"
)

// holds looks that a verdict is the plain one and has the one form (6.6).
func holds(t *testing.T, m *cm.Manager, c api.Conflict) {
	t.Helper()
	got := m.Judge(c)
	if want := plain(m.Kind(), m.Patience(), c); got != want {
		t.Fatalf("%s %d: Judge(%+v) = %+v, want %+v", m.Name(), m.Patience(), c, got, want)
	}
	if got.Abort && got.Wait != 0 || !got.Abort && (got.Timeout || got.Wait < 1) {
		t.Fatalf("%s %d: Judge(%+v) = %+v has not the form of a verdict", m.Name(), m.Patience(), c, got)
	}
}

// each gives all conflicts of edges in what a kind's rule looks at; what it has no eye for is thrown.
func each(d *dice, kind, patience int, look func(c api.Conflict)) {
	for _, waited := range waits(patience) {
		for _, tried := range tries {
			for _, x := range edges {
				for _, y := range near(kind, x) {
					c := d.conflict()
					c.Waited, c.Tries = waited, tried
					switch kind {
					case api.Karma, api.Polka:
						c.Mine, c.Theirs = x, y
					case api.Greedy:
						c.Born, c.Enemy = x, y
					default:
						c.Draw = x
					}
					look(c)
				}
			}
		}
	}
}

// near gives what an edge is held against; a kind that only looks at the draw has nothing to hold it against.
func near(kind int, x int64) []int64 {
	if kind == api.Polite || kind == api.Oracle {
		return []int64{0}
	}
	list := []int64{least, 0, most}
	for _, by := range []int64{-10, -9, -8, -7, -1, 0, 1, 2, 7, 8, 9, 10} {
		if sum := x + by; (sum < x) == (by < 0) {
			list = append(list, sum)
		}
	}
	return list
}

func TestJudgeAtTheEdges(t *testing.T) {
	d := dice(362436069)
	for kind := range api.Managers {
		for _, patience := range []int{1, 5, 100, 4096} {
			m := made(t, kind, patience)
			each(&d, kind, patience, func(c api.Conflict) { holds(t, m, c) })
		}
	}
}

func TestJudgeAtThrownConflicts(t *testing.T) {
	d := dice(521288629)
	for kind := range api.Managers {
		for range 400 {
			m := made(t, kind, 1+d.below(api.MaxPatience))
			for range 100 {
				c := d.conflict()
				if d.below(2) == 0 {
					c.Waited = m.Patience() + d.below(20) - 10
				}
				holds(t, m, c)
			}
		}
	}
}

// 6.4, word by word where one number tells the whole.

func TestPoliteWaitsByTheLowestBits(t *testing.T) {
	m := made(t, api.Polite, api.MaxPatience)
	for tried := range api.PoliteTries {
		for draw := int64(-300); draw < 300; draw++ {
			want := 1 + int(((draw%256)+256)%(1<<tried))
			if got := m.Judge(api.Conflict{Tries: tried, Draw: draw}); got != wait(want) {
				t.Fatalf("at try %d with draw %d: %+v, want %d steps", tried, draw, got, want)
			}
		}
	}
	for _, tried := range []int{8, 9, 63, 64, 1 << 32} {
		if got := m.Judge(api.Conflict{Tries: tried, Draw: -1}); got != abort {
			t.Errorf("at try %d: %+v", tried, got)
		}
	}
}

func TestKarmaAndPolkaAbortAlike(t *testing.T) {
	d := dice(123456789)
	k, p := made(t, api.Karma, 100), made(t, api.Polka, 100)
	each(&d, api.Karma, 100, func(c api.Conflict) {
		mine, theirs := k.Judge(c), p.Judge(c)
		if mine.Abort != theirs.Abort || mine.Timeout != theirs.Timeout {
			t.Fatalf("of %+v karma says %+v, polka %+v", c, mine, theirs)
		}
	})
}

func TestSumsOnEitherSideOfTheEnd(t *testing.T) {
	type c = api.Conflict
	for _, kind := range []int{api.Karma, api.Polka} {
		m := made(t, kind, 1) // a patience of 1: every wait is one of 1 step
		for _, x := range []struct {
			shown api.Conflict
			want  api.Verdict
		}{
			{c{Mine: most - 3, Tries: 2, Theirs: most - 1}, wait(1)},
			{c{Mine: most - 3, Tries: 3, Theirs: most - 1}, abort},
			{c{Mine: most - 3, Tries: 4, Theirs: most - 1}, abort},
			{c{Mine: most - 3, Tries: 3, Theirs: most}, wait(1)},
			{c{Mine: most - 3, Tries: 4, Theirs: most}, wait(1)},
			{c{Mine: most, Tries: most, Theirs: most}, wait(1)},
			{c{Mine: most, Tries: most, Theirs: least}, abort},
			{c{Mine: least, Tries: 0, Theirs: least}, wait(1)},
			{c{Mine: least, Tries: 1, Theirs: least}, abort},
			{c{Mine: least, Tries: most, Theirs: -1}, wait(1)},
			{c{Mine: least, Tries: most, Theirs: -2}, abort},
			{c{Mine: 5, Tries: -1, Theirs: 4}, abort},
			{c{Mine: 5, Tries: -1, Theirs: 5}, wait(1)},
			{c{Mine: 5, Tries: least, Theirs: 4}, abort},
		} {
			if got := m.Judge(x.shown); got != x.want {
				t.Errorf("%s: Judge(%+v) = %+v, want %+v", m.Name(), x.shown, got, x.want)
			}
		}
	}
}

func TestPolkaStopsGrowing(t *testing.T) {
	m := made(t, api.Polka, api.MaxPatience)
	for tried, want := range []int{1, 2, 4, 8, 16, 32, 64, 128, 128, 128, 128} {
		if got := m.Judge(api.Conflict{Theirs: most, Tries: tried, Draw: -1}); got != wait(want) {
			t.Errorf("at try %d: %+v, want %d steps", tried, got, want)
		}
	}
	if got := m.Judge(api.Conflict{Theirs: most, Tries: most, Draw: 128 + 5}); got != wait(6) {
		t.Errorf("at the last try: %+v", got)
	}
}

func TestOracleByItsDrawAlone(t *testing.T) {
	d := dice(97531)
	seen := [api.OracleTop + 1]bool{}
	for _, patience := range patiences {
		m := made(t, api.Oracle, patience)
		for draw := int64(-64); draw < 64; draw++ {
			want := own(api.Oracle, api.Conflict{Draw: draw})
			seen[want] = true
			for range 20 {
				c := d.conflict()
				c.Draw = draw
				if got := m.Judge(c); got.Wait != want || got.Abort != (want == 0) || got.Timeout {
					t.Fatalf("patience %d: Judge(%+v) = %+v, want %d steps", patience, c, got, want)
				}
			}
		}
	}
	for steps, was := range seen {
		if !was {
			t.Errorf("no draw waits %d steps", steps)
		}
	}
}

// What a kind is not shown says nothing: only the fields of its rule, and Waited, move its verdict.
func TestOtherFieldsSayNothing(t *testing.T) {
	d := dice(24681357)
	for kind := range api.Managers {
		m := made(t, kind, 100)
		for range 20000 {
			c := d.conflict()
			o := d.conflict()
			switch kind {
			case api.Polite:
				o.Tries, o.Waited, o.Draw = c.Tries, c.Waited, c.Draw
			case api.Karma:
				o.Mine, o.Theirs, o.Tries, o.Waited = c.Mine, c.Theirs, c.Tries, c.Waited
			case api.Polka:
				o.Mine, o.Theirs, o.Tries, o.Waited, o.Draw = c.Mine, c.Theirs, c.Tries, c.Waited, c.Draw
			case api.Greedy:
				o.Born, o.Enemy, o.Flag, o.Waited = c.Born, c.Enemy, c.Flag, c.Waited
			case api.Oracle:
				o.Draw = c.Draw
			}
			if a, b := m.Judge(c), m.Judge(o); a != b {
				t.Fatalf("%s says %+v of %+v, and %+v of %+v", m.Name(), a, c, b, o)
			}
		}
	}
}

// 6.5

// endure plays one conflict in which the kind's rule waits as long as it may, and tells the waits' sum and the last verdict.
func endure(t *testing.T, m *cm.Manager, draw func() int64) (int, api.Verdict) {
	t.Helper()
	waited := 0
	for tried := 0; ; tried++ {
		v := m.Judge(api.Conflict{Mine: 1, Theirs: most, Born: 9, Enemy: 4, Tries: tried, Waited: waited, Draw: draw()})
		if v.Abort {
			return waited, v
		}
		if v.Wait < 1 || tried > m.Patience() {
			t.Fatalf("%s %d: %+v at try %d", m.Name(), m.Patience(), v, tried)
		}
		waited += v.Wait
		if waited > m.Patience() {
			t.Fatalf("%s has waited %d steps, with a patience of %d", m.Name(), waited, m.Patience())
		}
	}
}

func TestWaitsOfOneConflictNeverPassThePatience(t *testing.T) {
	d := dice(192837465)
	draws := []func() int64{
		func() int64 { return 0 },
		func() int64 { return -1 },
		func() int64 { return least },
		func() int64 { return most },
		d.number,
	}
	for kind := api.Polite; kind <= api.Greedy; kind++ {
		for patience := 1; patience <= api.MaxPatience; patience += 1 + d.below(9) {
			m := made(t, kind, patience)
			for _, draw := range draws {
				waited, last := endure(t, m, draw)
				ownAbort := kind == api.Polite && last == abort // it has an end of its own, by its tries
				if !ownAbort && (last != timeout || waited != patience) {
					t.Fatalf("%s %d ends with %+v behind %d steps", m.Name(), patience, last, waited)
				}
			}
		}
	}
}

func TestNoPatienceLeft(t *testing.T) {
	stay := [api.Oracle]api.Conflict{
		api.Polite: {Tries: 7, Draw: -1},
		api.Karma:  {Mine: 3, Theirs: 3},
		api.Polka:  {Mine: 3, Theirs: 30, Tries: 7, Draw: -1},
		api.Greedy: {Born: 4, Enemy: 4},
	}
	leave := [api.Oracle]api.Conflict{
		api.Polite: {Tries: 8, Draw: -1},
		api.Karma:  {Mine: 4, Theirs: 3},
		api.Polka:  {Mine: 3, Theirs: 3, Tries: 1, Draw: -1},
		api.Greedy: {Born: 3, Enemy: 4},
	}
	long := [api.Oracle]int{api.Polite: 128, api.Karma: 4, api.Polka: 128, api.Greedy: 4}
	for kind := api.Polite; kind < api.Oracle; kind++ {
		for _, patience := range []int{1, 3, 4, 5, 127, 128, 129, 4096} {
			m := made(t, kind, patience)
			for _, waited := range waits(patience) {
				s, l := stay[kind], leave[kind]
				s.Waited, l.Waited = waited, waited
				want := timeout
				if waited < patience {
					want = wait(min(long[kind], patience-max(waited, 0)))
				}
				if got := m.Judge(s); got != want {
					t.Errorf("%s %d, %d waited: %+v, want %+v", m.Name(), patience, waited, got, want)
				}
				if got := m.Judge(l); got != abort {
					t.Errorf("%s %d, %d waited, aborts by its rule: %+v", m.Name(), patience, waited, got)
				}
			}
		}
	}
}

// 6.7

func TestNothingIsKept(t *testing.T) {
	d := dice(5551212)
	for kind := range api.Managers {
		for _, patience := range patiences {
			busy, twin := made(t, kind, patience), made(t, kind, patience)
			var shown [200]api.Conflict
			var said [200]api.Verdict
			for i := range shown {
				shown[i] = d.conflict()
				said[i] = busy.Judge(shown[i])
			}
			for range 1000 {
				i := d.below(len(shown))
				if got := busy.Judge(shown[i]); got != said[i] {
					t.Fatalf("%s %d said %+v of %+v, and then %+v", busy.Name(), patience, said[i], shown[i], got)
				}
			}
			fresh := made(t, kind, patience)
			for i := len(shown) - 1; i >= 0; i-- {
				if a, b := twin.Judge(shown[i]), fresh.Judge(shown[i]); a != said[i] || b != said[i] {
					t.Fatalf("%s %d: three managers say %+v, %+v and %+v of %+v", busy.Name(), patience, said[i], a, b, shown[i])
				}
			}
			if busy.Kind() != kind || busy.Patience() != patience || busy.Name() != names[kind] {
				t.Errorf("%s %d became %s %d", names[kind], patience, busy.Name(), busy.Patience())
			}
		}
	}
}

func TestManagersDoNotStandInEachOthersWay(t *testing.T) {
	d := dice(777)
	var all []*cm.Manager
	for kind := range api.Managers {
		for _, patience := range patiences {
			all = append(all, made(t, kind, patience))
		}
	}
	for range 20000 {
		holds(t, all[d.below(len(all))], d.conflict())
	}
}
