package sched_test

import (
	"iter"
	"math"
	"slices"
	"testing"

	"braid/api"
	"braid/sched"
)

// nobodys are picks that name nobody, whatever the number of threads: most of them would name somebody modulo 2, 3 or 2^32.
var nobodys = []int64{
	math.MinInt64, math.MinInt64 + 1, -1 << 32, -1 << 31, -1<<31 + 1, -6, -2, -1,
	6, 7, 12, 256, 1<<31 - 1, 1 << 31, 1 << 32, 1<<32 + 1, math.MaxInt64 - 1, math.MaxInt64,
}

// dice gives the same numbers at every run.
type dice uint64

func (d *dice) below(n int) int {
	*d ^= *d << 13
	*d ^= *d >> 7
	*d ^= *d << 17
	return int(uint64(*d) % uint64(n))
}

// throw gives picks that name the threads and nobody, with stretches among them.
func (d *dice) throw(threads, length int) []int64 {
	picks := make([]int64, length)
	for i := range picks {
		switch d.below(4) {
		case 0:
			picks[i] = nobodys[d.below(len(nobodys))]
		case 1:
			if i > 0 {
				picks[i] = picks[i-1]
			}
		default:
			picks[i] = int64(d.below(threads + 1))
		}
	}
	return picks
}

// whom tells whom a pick names, by going through the threads.
func whom(threads int, pick int64) int {
	for thread := range threads {
		if pick == int64(thread) {
			return thread
		}
	}
	return -1
}

// fair goes through all windows, as P4.5 says it.
func fair(threads int, picks []int64, k int) bool {
	for i := 0; i+k <= len(picks); i++ {
		for thread := range threads {
			if !slices.Contains(picks[i:i+k], int64(thread)) {
				return false
			}
		}
	}
	return true
}

// plain is a plan that keeps whom it was told of, and asks again at each turn.
type plain struct {
	threads int
	picks   []int64
	step    int
	done    []int
}

func (p *plain) next() (api.Turn, bool) {
	if p.step == len(p.picks) {
		return api.Turn{}, false
	}
	turn := api.Turn{Step: p.step, Thread: whom(p.threads, p.picks[p.step])}
	if slices.Contains(p.done, turn.Thread) {
		turn.Thread = -1
	}
	p.step++
	return turn, true
}

func (p *plain) finish(thread int) api.Errno {
	if thread < 0 || thread >= p.threads {
		return api.ErrThread
	}
	p.done = append(p.done, thread)
	return api.OK
}

func mustNew(t *testing.T, threads int, picks []int64) *sched.Plan {
	t.Helper()
	p, e := sched.New(threads, picks)
	if p == nil || e != api.OK {
		t.Fatalf("New(%d, %d picks) = %v, %d", threads, len(picks), p, e)
	}
	return p
}

func turn(t *testing.T, p *sched.Plan, want api.Turn, more bool) {
	t.Helper()
	if got, ok := p.Next(); got != want || ok != more {
		t.Fatalf("Next = %v, %t, want %v, %t", got, ok, want, more)
	}
}

func left(t *testing.T, p *sched.Plan, want int) {
	t.Helper()
	if got := p.Left(); got != want {
		t.Fatalf("Left = %d, want %d", got, want)
	}
}

func finish(t *testing.T, p *sched.Plan, thread int, want api.Errno) {
	t.Helper()
	if e := p.Finish(thread); e != want {
		t.Fatalf("Finish(%d) = %d, want %d", thread, e, want)
	}
}

func finished(t *testing.T, p *sched.Plan, thread int, want bool, f api.Errno) {
	t.Helper()
	if got, e := p.Finished(thread); got != want || e != f {
		t.Fatalf("Finished(%d) = %t, %d, want %t, %d", thread, got, e, want, f)
	}
}

func gives(t *testing.T, seq iter.Seq[api.Stretch], want ...api.Stretch) {
	t.Helper()
	if got := slices.Collect(seq); !slices.Equal(got, want) {
		t.Fatalf("Stretches give %v, want %v", got, want)
	}
}

// Worked examples 1 and 3.
func TestPlanAsWorked(t *testing.T) {
	p := mustNew(t, 2, []int64{0, 1, 7, -1, 1, 0})
	left(t, p, 6)
	turn(t, p, api.Turn{Step: 0, Thread: 0}, true)
	turn(t, p, api.Turn{Step: 1, Thread: 1}, true)
	turn(t, p, api.Turn{Step: 2, Thread: -1}, true)
	turn(t, p, api.Turn{Step: 3, Thread: -1}, true)
	finish(t, p, 1, api.OK)
	left(t, p, 2)
	turn(t, p, api.Turn{Step: 4, Thread: -1}, true)
	turn(t, p, api.Turn{Step: 5, Thread: 0}, true)
	for range 3 {
		turn(t, p, api.Turn{}, false)
		left(t, p, 0)
	}
	finish(t, p, 2, api.ErrThread)
	finished(t, p, -1, false, api.ErrThread)
	finished(t, p, 0, false, api.OK)
	finished(t, p, 1, true, api.OK)
}

// Worked example 2, with the calls that refuse as New does.
func TestRefusals(t *testing.T) {
	full := make([]int64, api.MaxPicks)
	long := make([]int64, api.MaxPicks+1)
	for _, c := range []struct {
		threads int
		picks   []int64
		k       int
		want    api.Errno
		window  api.Errno
	}{
		{0, nil, 1, api.ErrThreads, api.ErrThreads},
		{-1, nil, 1, api.ErrThreads, api.ErrThreads},
		{math.MinInt, nil, 1, api.ErrThreads, api.ErrThreads},
		{7, nil, 1, api.ErrThreads, api.ErrThreads},
		{math.MaxInt, nil, 1, api.ErrThreads, api.ErrThreads},
		{0, long, 1, api.ErrThreads, api.ErrThreads},
		{7, long, 0, api.ErrThreads, api.ErrThreads},
		{7, full, 0, api.ErrThreads, api.ErrThreads},
		{1, long, 1, api.ErrPicks, api.ErrPicks},
		{6, long, 0, api.ErrPicks, api.ErrPicks},
		{1, full, 0, api.OK, api.ErrWindow},
		{6, nil, -1, api.OK, api.ErrWindow},
		{6, nil, math.MinInt, api.OK, api.ErrWindow},
		{1, full, 1, api.OK, api.OK},
		{6, nil, 1, api.OK, api.OK},
		{1, []int64{}, math.MaxInt, api.OK, api.OK},
	} {
		p, e := sched.New(c.threads, c.picks)
		if e != c.want || (p == nil) != (e != api.OK) {
			t.Errorf("New(%d, %d picks) = %v, %d, want %d", c.threads, len(c.picks), p, e, c.want)
		}
		if e == api.OK {
			left(t, p, len(c.picks))
		}
		if b, e := sched.Fair(c.threads, c.picks, c.k); e != c.window || b != (e == api.OK) {
			t.Errorf("Fair(%d, %d picks, %d) = %t, %d, want %d", c.threads, len(c.picks), c.k, b, e, c.window)
		}
		if k, e := sched.Least(c.threads, c.picks); e != c.want || (k == 0) != (e != api.OK) {
			t.Errorf("Least(%d, %d picks) = %d, %d, want %d", c.threads, len(c.picks), k, e, c.want)
		}
		if s, e := sched.Tail(c.threads, c.picks); e != c.want || e != api.OK && s != (api.Stretch{}) {
			t.Errorf("Tail(%d, %d picks) = %v, %d, want %d", c.threads, len(c.picks), s, e, c.want)
		}
		if n := len(slices.Collect(sched.Stretches(c.threads, c.picks))); (n > 0) != (c.want == api.OK && len(c.picks) > 0) {
			t.Errorf("Stretches(%d, %d picks) give %d", c.threads, len(c.picks), n)
		}
	}
}

// Worked examples 4 and 5, and lists in which a thread is never named.
func TestFairAndLeastAsWorked(t *testing.T) {
	for _, c := range []struct {
		threads int
		picks   []int64
		least   int
	}{
		{2, []int64{0, 1, 0, 0, 1}, 3},
		{2, []int64{0, 0, 0}, 4},
		{2, []int64{1, 1, 1}, 4},
		{2, []int64{-1, 2, 3}, 4},
		{1, []int64{0, 0, 0}, 1},
		{1, nil, 1},
		{6, nil, 1},
		{1, []int64{0, 5, 5, 0}, 3},
		{1, []int64{5, 5, 0}, 3},
		{1, []int64{0, 5, 5}, 3},
		{1, []int64{5}, 2},
		{3, []int64{0, 1, 2, 0, 1, 2}, 3},
		{6, []int64{0, 1, 2, 3, 4, 5}, 6},
		{6, []int64{0, 1, 2, 3, 4}, 6},
		{6, []int64{0, 1, 2, 3, 4, 5, 0}, 6},
		{6, []int64{0, 1, 2, 3, 4, 5, 0, 2}, 7},
	} {
		if k, e := sched.Least(c.threads, c.picks); k != c.least || e != api.OK {
			t.Errorf("Least(%d, %v) = %d, %d, want %d", c.threads, c.picks, k, e, c.least)
		}
	}
	picks := []int64{0, 1, 0, 0, 1}
	for k, want := range []bool{1: false, 2: false, 3: true, 4: true, 5: true, 6: true, 7: true} {
		b, e := sched.Fair(2, picks, k)
		if k == 0 {
			if b || e != api.ErrWindow {
				t.Errorf("Fair with the window 0 = %t, %d", b, e)
			}
		} else if b != want || e != api.OK {
			t.Errorf("Fair with the window %d = %t, %d, want %t", k, b, e, want)
		}
	}
	if b, e := sched.Fair(2, picks, math.MaxInt); !b || e != api.OK {
		t.Errorf("Fair with the longest window = %t, %d", b, e)
	}
}

// Worked example 6.
func TestTailAsWorked(t *testing.T) {
	for _, c := range []struct {
		threads int
		picks   []int64
		want    api.Stretch
	}{
		{2, []int64{0, 1, 9, -3}, api.Stretch{Thread: -1, From: 2, Length: 2}},
		{2, []int64{0, 1, 1, 1}, api.Stretch{Thread: 1, From: 1, Length: 3}},
		{2, nil, api.Stretch{Thread: -1}},
		{2, []int64{}, api.Stretch{Thread: -1}},
		{1, []int64{0}, api.Stretch{Length: 1}},
		{1, []int64{1}, api.Stretch{Thread: -1, Length: 1}},
		{1, []int64{-1, 1, 0}, api.Stretch{From: 2, Length: 1}},
		{6, make([]int64, api.MaxPicks), api.Stretch{Length: api.MaxPicks}},
		{6, []int64{5, 5, 6, 5}, api.Stretch{Thread: 5, From: 3, Length: 1}},
	} {
		if s, e := sched.Tail(c.threads, c.picks); s != c.want || e != api.OK {
			t.Errorf("Tail(%d, %d picks) = %v, %d, want %v", c.threads, len(c.picks), s, e, c.want)
		}
	}
}

// Worked example 7, gone through early, again, and by two at once.
func TestStretchesAsWorked(t *testing.T) {
	picks := []int64{0, 0, 1, 8, -1, 1}
	seq := sched.Stretches(2, picks)
	want := []api.Stretch{{Thread: 0, From: 0, Length: 2}, {Thread: 1, From: 2, Length: 1}, {Thread: -1, From: 3, Length: 2}, {Thread: 1, From: 5, Length: 1}}
	gives(t, seq, want...)
	clear(picks)
	for stop := range want {
		at := 0
		for s := range seq {
			if s != want[at] {
				t.Fatalf("stretch %d = %v, want %v", at, s, want[at])
			}
			if at == stop {
				break
			}
			at++
			gives(t, seq, want...)
		}
	}
	gives(t, seq, want...)
	gives(t, sched.Stretches(2, nil))
	gives(t, sched.Stretches(2, []int64{}))
	gives(t, sched.Stretches(1, []int64{0}), api.Stretch{Length: 1})
	gives(t, sched.Stretches(1, []int64{1}), api.Stretch{Thread: -1, Length: 1})
	gives(t, sched.Stretches(6, make([]int64, api.MaxPicks)), api.Stretch{Length: api.MaxPicks})
	gives(t, sched.Stretches(6, nobodys), api.Stretch{Thread: -1, Length: len(nobodys)})
}

// A pick at or above the number of threads, or below 0, names nobody in every call.
func TestNobody(t *testing.T) {
	for threads := 1; threads <= api.MaxThreads; threads++ {
		for _, pick := range append([]int64{int64(threads), int64(threads) + 1, int64(2 * threads)}, nobodys...) {
			turn(t, mustNew(t, threads, []int64{pick}), api.Turn{Thread: -1}, true)
			if s, _ := sched.Tail(threads, []int64{pick}); s.Thread != -1 {
				t.Errorf("Tail(%d, [%d]) = %v", threads, pick, s)
			}
			if k, _ := sched.Least(threads, []int64{pick}); k != 2 {
				t.Errorf("Least(%d, [%d]) = %d", threads, pick, k)
			}
		}
		for thread := range threads {
			turn(t, mustNew(t, threads, []int64{int64(thread)}), api.Turn{Thread: thread}, true)
		}
	}
}

func TestFinishTwiceAndPlansApart(t *testing.T) {
	picks := []int64{2, 2, 2, 1, 2}
	p, other := mustNew(t, 3, picks), mustNew(t, 3, picks)
	clear(picks)
	turn(t, p, api.Turn{Thread: 2}, true)
	for range 2 {
		finish(t, p, 2, api.OK)
		finished(t, p, 2, true, api.OK)
		turn(t, p, api.Turn{Step: len(picks) - p.Left(), Thread: -1}, true)
	}
	turn(t, p, api.Turn{Step: 3, Thread: 1}, true)
	turn(t, p, api.Turn{Step: 4, Thread: -1}, true)
	for _, thread := range []int{3, -1, 6, math.MaxInt, math.MinInt} {
		finish(t, p, thread, api.ErrThread)
		finished(t, p, thread, false, api.ErrThread)
	}
	left(t, other, 5)
	finished(t, other, 2, false, api.OK)
	for i, want := range []int{2, 2, 2, 1, 2} {
		turn(t, other, api.Turn{Step: i, Thread: want}, true)
	}
	finish(t, other, 0, api.OK)
	finished(t, p, 0, false, api.OK)
}

func TestZeroAndNilPlan(t *testing.T) {
	for _, p := range []*sched.Plan{nil, {}} {
		for range 2 {
			turn(t, p, api.Turn{}, false)
			left(t, p, 0)
			for _, thread := range []int{-1, 0, 1, 5, 6} {
				finish(t, p, thread, api.ErrThread)
				finished(t, p, thread, false, api.ErrThread)
			}
		}
	}
}

// The picks are written over behind New and Stretches, and none of the calls changes them itself.
func TestPicksAreNeitherKeptNorChanged(t *testing.T) {
	var d dice = 77
	picks := d.throw(3, 40)
	before := slices.Clone(picks)
	p, seq := mustNew(t, 3, picks), sched.Stretches(3, picks)
	want := slices.Collect(seq)
	sched.Fair(3, picks, 4)
	sched.Least(3, picks)
	sched.Tail(3, picks)
	if !slices.Equal(picks, before) {
		t.Fatalf("the picks are changed: %v, were %v", picks, before)
	}
	clear(picks)
	gives(t, seq, want...)
	for i, pick := range before {
		turn(t, p, api.Turn{Step: i, Thread: whom(3, pick)}, true)
	}
}

// Random plans beside plain ones.
func TestPlansBesidePlainOnes(t *testing.T) {
	var d dice = 4711
	for range 600 {
		threads := 1 + d.below(api.MaxThreads)
		twin := &plain{threads: threads, picks: d.throw(threads, d.below(60))}
		p := mustNew(t, threads, twin.picks)
		for range 100 {
			if d.below(8) == 0 {
				thread := d.below(threads+2) - 1
				finish(t, p, thread, twin.finish(thread))
			}
			want, more := twin.next()
			turn(t, p, want, more)
			left(t, p, len(twin.picks)-twin.step)
			for thread := range threads {
				finished(t, p, thread, slices.Contains(twin.done, thread), api.OK)
			}
		}
	}
}

// Random picks: each window by its words, each stretch by what P4.8 says of all of them.
func TestSchedulesByTheirWords(t *testing.T) {
	var d dice = 99
	for round := range 1500 {
		threads := 1 + d.below(1+round%api.MaxThreads)
		picks := d.throw(threads, d.below(30))
		least := 0
		for k := len(picks) + 3; k >= 1; k-- {
			want := fair(threads, picks, k)
			if want {
				least = k
			}
			if b, e := sched.Fair(threads, picks, k); b != want || e != api.OK {
				t.Fatalf("Fair(%d, %v, %d) = %t, %d", threads, picks, k, b, e)
			}
		}
		if k, e := sched.Least(threads, picks); k != least || e != api.OK {
			t.Fatalf("Least(%d, %v) = %d, %d, want %d", threads, picks, k, e, least)
		}
		covers(t, threads, picks)
	}
}

// covers tells whether the stretches are the longest ones, and all picks together, and end with the tail.
func covers(t *testing.T, threads int, picks []int64) {
	t.Helper()
	last := api.Stretch{Thread: -1}
	for s := range sched.Stretches(threads, picks) {
		if s.From != last.From+last.Length || s.Length < 1 || s.From > 0 && s.Thread == last.Thread {
			t.Fatalf("%v behind %v in %v", s, last, picks)
		}
		for _, pick := range picks[s.From : s.From+s.Length] {
			if whom(threads, pick) != s.Thread {
				t.Fatalf("%v holds the pick %d of %v", s, pick, picks)
			}
		}
		last = s
	}
	if last.From+last.Length != len(picks) {
		t.Fatalf("the stretches of %v end with %v", picks, last)
	}
	if s, e := sched.Tail(threads, picks); s != last || e != api.OK {
		t.Fatalf("Tail(%d, %v) = %v, %d, want %v", threads, picks, s, e, last)
	}
}
