package machine_test

import (
	"maps"
	"math"
	"slices"
	"testing"

	"braid/api"
	"braid/fixture"
	"braid/intset"
	"braid/lang"
	"braid/machine"
	"braid/model"
)

// known is what an attempt knows of the objects, in one of its steps.
type known struct {
	own  map[int]api.Value // what it holds of its own
	read map[int]api.Row   // what was told by reads, by their entries
	took map[int]api.Value // what was told as objects were acquired
}

func newKnown() *known {
	return &known{map[int]api.Value{}, map[int]api.Row{}, map[int]api.Value{}}
}

// learns goes on by a row. It answers whether what the row tells was known already, and whether it is what was known.
func (k *known) learns(r api.Row) (old, fits bool) {
	if r.Told {
		own, mine := k.own[r.Object]
		before, held := k.read[r.Entry]
		switch {
		case mine:
			old, fits = true, r.Value == own && r.Kind == api.RowLocal && r.Entry == -1
		case r.Phase == api.PhaseRead && held:
			old, fits = true, r.Value == before.Value && r.Object == before.Object && r.Kind == api.RowLocal
		case r.Phase == api.PhaseRead:
			fits = r.Kind != api.RowLocal
			k.read[r.Entry] = r
		default:
			fits = r.Kind != api.RowLocal && (r.Entry == -1) != held
			k.took[r.Object], k.own[r.Object] = r.Value, r.Value
		}
	}
	if r.Puts {
		k.own[r.Object] = r.Put
	}
	return old, fits
}

// W1: in the order of the witnesses the committed attempts are told what those ahead of them left, but for the reads that
// they let go; the programs' results, and what they leave, are those of the model.
func (w *watched) serial() {
	w.Helper()
	now := slices.Clone(w.first)
	order := w.committed(math.MaxInt)
	for i, a := range order {
		k, gone := newKnown(), a.released(math.MaxInt)
		for _, r := range a.rows {
			old, fits := k.learns(r)
			if r.Told && !fits || r.Told && !old && !(r.Phase == api.PhaseRead && gone[r.Entry]) && r.Value != now[r.Object] {
				w.Fatalf("%q: in the order of the witnesses the object holds %+v", line(r), now[r.Object])
			}
		}
		ahead := w.numbers(now)
		for x, v := range k.own {
			now[x] = v
		}
		if j := w.jobOf(a); j.Kind == api.JobProgram {
			w.means(a, j.Program, ahead, w.numbers(now), k, gone)
		}
		for _, b := range order[:i] {
			if a.end < b.enters {
				w.Fatalf("one that committed at %d stands behind one that began at %d", a.end, b.enters)
			}
		}
	}
	values(w.T, w.Finals, now...)
}

// means lays a committed program beside the model.
func (w *watched) means(a *attempt, code []lang.Instr, ahead, behind []int64, k *known, gone map[int]bool) {
	w.Helper()
	given := make([]api.Given, len(k.read))
	for e, r := range k.read {
		given[e] = api.Given{Use: gone[e], Value: r.Value.Num}
	}
	alone, e := model.Run(code, ahead, given, api.MaxFuel)
	if e != api.OK || alone.Outcome != api.EndCommit || !slices.Equal(alone.Objects, behind) {
		w.Fatalf("%q: the model says %+v, %d, and the run left %v", line(a.rows[0]), alone, e, behind)
	}
	if got := w.Answers[a.thread][a.job]; w.answered(a) && got != commit(alone.Result, a.rows[0].Try) {
		w.Fatalf("%q: answers %+v, the model %d", line(a.rows[0]), got, alone.Result)
	}
}

// W2: what an attempt was told stood, with all that it still held and had acquired, behind one step of its time.
func (w *watched) opaque() {
	w.Helper()
	for _, a := range w.attempts {
		k := newKnown()
		for _, r := range a.rows {
			old, fits := k.learns(r)
			if !r.Told {
				continue
			}
			if !fits {
				w.Fatalf("%q is not what was known", line(r))
			}
			if old && r.Entry == -1 {
				continue // its own
			}
			if !w.stood(a.begin, r.Step, k, a.released(r.Step)) {
				w.Fatalf("%q: at no step from %d on all of it stood: %+v", line(r), a.begin, k)
			}
		}
	}
}

func (w *watched) stood(from, to int, k *known, gone map[int]bool) bool {
	for step := from; step <= to; step++ {
		all := w.at(step)
		good := true
		for e, r := range k.read {
			good = good && (gone[e] || all[r.Object] == r.Value)
		}
		for x, v := range k.took {
			good = good && all[x] == v
		}
		if good {
			return true
		}
	}
	return false
}

// onlyCommits looks that the values change with commits alone, and then in objects of the attempt's own.
func (w *watched) onlyCommits() {
	w.Helper()
	for step, r := range w.Rows {
		was, is := w.at(step-1), w.at(step)
		if r.End != api.EndCommit && !slices.Equal(was, is) {
			w.Fatalf("%q: from %+v to %+v", line(r), was, is)
		}
	}
	for _, a := range w.committed(math.MaxInt) {
		k := newKnown()
		for _, r := range a.rows {
			k.learns(r)
		}
		for x, v := range w.at(a.end) {
			if own, is := k.own[x]; is && v != own || !is && v != w.at(a.end - 1)[x] {
				w.Fatalf("behind the commit at %d object %d holds %+v", a.end, x, v)
			}
		}
	}
}

// does does a call at one moment, and tells what a set answers.
func does(s map[int64]struct{}, j machine.Job) (bool, int64) {
	_, is := s[j.Key]
	_, other := s[j.Other]
	switch j.Kind {
	case api.JobInsert:
		s[j.Key] = struct{}{}
		return !is, 0
	case api.JobRemove:
		delete(s, j.Key)
	case api.JobLeast:
		if len(s) == 0 {
			return false, 0
		}
		low := slices.Min(slices.Collect(maps.Keys(s)))
		delete(s, low)
		return true, low
	case api.JobSize:
		return true, int64(len(s))
	case api.JobMove:
		if is && !other {
			delete(s, j.Key)
			s[j.Other] = struct{}{}
		}
		return is && !other, 0
	}
	return is, 0
}

// W5: the set's calls, in the order of their witnesses, are a set's; behind each step the list is one, and holds what those
// that have committed left, answered or not.
func (w *watched) set() int {
	w.Helper()
	said, want := 0, []int64{}
	for step := -1; step < len(w.Rows); step++ {
		if step >= 0 && w.Rows[step].End == api.EndCommit && w.s.Threads[w.Rows[step].Thread][w.Rows[step].Job].Kind != api.JobProgram {
			want, said = w.setBy(step)
		}
		keys, is := intset.Keys(w.at(step), len(w.s.Objects))
		if !is || !slices.Equal(keys, want) {
			w.Fatalf("behind step %d the keys are %v, %v, want %v", step, keys, is, want)
		}
	}
	return said
}

// setBy is the keys behind the calls that have committed by a step, and how many of them have answered at the end.
func (w *watched) setBy(step int) ([]int64, int) {
	w.Helper()
	s, said := map[int64]struct{}{}, 0
	for _, a := range w.committed(step) {
		j := w.jobOf(a)
		if j.Kind == api.JobProgram {
			continue
		}
		is, result := does(s, j)
		want := api.Answer{Outcome: api.EndCommit, Yes: is, Result: result, Tries: a.rows[0].Try}
		if w.answered(a) {
			said++
			if got := w.Answers[a.thread][a.job]; got != want {
				w.Fatalf("%+v answers %+v, a set %+v", j, got, want)
			}
		}
	}
	return slices.Sorted(maps.Keys(s)), said
}

// W1, W2 and W5 over thrown scripts.
func TestWhole(t *testing.T) {
	t.Parallel()
	d := fixture.NewDice()
	said, commits, failed, released := 0, 0, 0, 0
	for n := range 3000 {
		w := watch(t, fixture.Thrown(&d, n))
		w.serial()
		w.opaque()
		w.onlyCommits()
		said += w.set()
		for _, a := range w.attempts {
			switch {
			case a.outcome == api.EndCommit:
				commits++
				released += len(a.released(math.MaxInt))
			case a.outcome == api.EndStale || a.outcome == api.EndKilled:
				failed++
			}
		}
	}
	if said < 1000 || commits < 5000 || failed < 1000 || released < 500 {
		t.Errorf("%d calls answered, %d attempts committed, %d failed, %d reads were let go", said, commits, failed, released)
	}
}

// outcomeBy tells whether a transaction has reached its outcome by a step.
func (w *watched) outcomeBy(stamp int64, step int) bool {
	return slices.ContainsFunc(w.attempts, func(a *attempt) bool {
		return a.stamp == stamp && a.end >= 0 && a.end <= step && decided(a.outcome)
	})
}

func decided(outcome int) bool {
	return outcome == api.EndCommit || outcome == api.EndUser || outcome == api.EndBad
}

// oldest tells whether no transaction that is older has begun by a step and reached no outcome by it.
func (w *watched) oldest(stamp int64, step int) bool {
	for _, a := range w.attempts {
		if a.begin <= step && a.stamp < stamp && !w.outcomeBy(a.stamp, step) {
			return false
		}
	}
	return true
}

// W4: under Greedy, where no patience comes to its end, the oldest one fails just where another one has come through.
func TestTheOldest(t *testing.T) {
	t.Parallel()
	d := fixture.NewDice()
	failed := 0
	for range 2500 {
		s := fixture.Script(&d, api.Greedy, 300)
		s.Patience = fixture.Pick(&d, 9, 60, 400)
		w := watch(t, s)
		if slices.ContainsFunc(w.Rows, func(r api.Row) bool { return r.Timeout }) {
			continue
		}
		for _, a := range w.attempts {
			if a.outcome != api.EndStale && a.outcome != api.EndKilled || !w.oldest(a.stamp, a.end) {
				continue
			}
			failed++
			if !slices.ContainsFunc(w.attempts, func(b *attempt) bool {
				return b.stamp != a.stamp && decided(b.outcome) && b.end >= a.begin && b.end <= a.end
			}) {
				t.Fatalf("the oldest one fails from %d to %d, and nobody came through", a.begin, a.end)
			}
		}
	}
	if failed < 100 {
		t.Errorf("the oldest one failed %d times", failed)
	}
}
