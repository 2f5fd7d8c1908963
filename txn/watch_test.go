package txn_test

import (
	"slices"
	"testing"

	"braid/api"
	"braid/fixture"
	"braid/txn"
)

// watch looks at a play from outside, and holds it against what the chapter says of every play (8.17 to 8.19).
type watch struct {
	*testing.T
	s       txn.Scene
	moments [][]int // the current version of each object, behind each step
	done    []*record
	kinds   map[int]int // how often a kind of row was seen: ten times the kind, plus the end
}

// record is what an attempt's rows told.
type record struct {
	number int
	from   int // the moment of its New
	loc    int // what its last RowPoint saw
	base   int // the version that the look at the opened object found
	final  int // when its Finish began; -1: not yet
	reads  []read
	writes []took
}

// read is an entry that stands; lastly is when the last RowPoint of a look at it in Finish was.
type read struct{ object, version, ordinal, lastly int }

// took is an object that was acquired, and when.
type took struct{ object, old, fresh, when int }

func newWatch(t *testing.T, s txn.Scene) *watch {
	w := &watch{T: t, s: s, kinds: map[int]int{}}
	w.goesOn()
	return w
}

// goesOn keeps the moment.
func (w *watch) goesOn() {
	versions := make([]int, w.s.World.Objects())
	for o := range versions {
		loc, status := w.holder(o)
		versions[o], _ = w.s.World.Current(loc, status)
	}
	w.moments = append(w.moments, versions)
}

// holder tells the locator in an object's cell and its owner's status, from outside.
func (w *watch) holder(object int) (int, int) {
	c, _ := w.s.World.ObjectCell(object)
	loc, _ := w.s.Memory.Peek(c)
	l, _ := w.s.World.Locator(int(loc))
	c, _ = w.s.World.StatusCell(l.Owner)
	status, _ := w.s.Memory.Peek(c)
	return int(loc), int(status)
}

// ahead is how each object's cell stood ahead of a step.
type ahead struct{ loc, status, current int }

func (w *watch) now() []ahead {
	last := w.moments[len(w.moments)-1]
	all := make([]ahead, len(last))
	for o := range all {
		loc, status := w.holder(o)
		all[o] = ahead{loc, status, last[o]}
	}
	return all
}

func (w *watch) born(number int) *record {
	return &record{number: number, from: len(w.moments) - 1, final: -1}
}

func (r *record) place(object int) int {
	return slices.IndexFunc(r.reads, func(e read) bool { return e.object == object })
}

func (r *record) leaves(object int) {
	if i := r.place(object); i >= 0 {
		r.reads = slices.Delete(r.reads, i, i+1)
	}
}

func (r *record) releases(object int, ordinal int) {
	i := r.place(object)
	if i < 0 || r.reads[i].ordinal != ordinal {
		panic("no such entry was told")
	}
	r.leaves(object)
}

// sees takes in a row of an attempt; ahead is how the cells stood ahead of its step.
func (w *watch) sees(a *record, r api.Row, ahead []ahead) {
	w.Helper()
	w.goesOn()
	w.kinds[r.Kind*10+r.End]++
	at := len(w.moments) - 1
	if r.Phase == api.PhaseFinal && a.final < 0 {
		a.final = at
	}
	switch r.Kind {
	case api.RowPoint:
		a.loc = int(r.Seen)
		if i := a.place(r.Object); i >= 0 && r.Phase == api.PhaseFinal {
			a.reads[i].lastly = at
		}
	case api.RowStatus:
		if r.Entry < 0 {
			a.base, _ = w.s.World.Current(a.loc, int(r.Seen))
		}
	case api.RowAcquire:
		if r.Done {
			w.orderly(a, r, ahead[r.Object])
		}
	}
	if r.Told {
		w.told(a, r)
	}
	if r.End == api.EndCommit {
		w.done = append(w.done, a)
	}
}

// orderly holds an acquire against 8.17.
func (w *watch) orderly(a *record, r api.Row, was ahead) {
	w.Helper()
	l, _ := w.s.World.Locator(int(r.Wrote))
	if l.Owner != a.number || l.Old != was.current || was.loc != int(r.Seen) || was.status == api.Active {
		w.Fatalf("%q lays %v upon %v", fixture.Row(r), l, was)
	}
	a.writes = append(a.writes, took{r.Object, l.Old, l.New, len(w.moments) - 1})
	a.leaves(r.Object)
}

// told holds a row that tells against 8.18.
func (w *watch) told(a *record, r api.Row) {
	w.Helper()
	if r.Phase == api.PhaseRead && r.Kind != api.RowLocal {
		a.reads = append(a.reads, read{r.Object, a.base, r.Entry, 0})
	}
	for m := len(w.moments) - 1; m >= a.from; m-- {
		if a.fits(w.moments[m]) {
			return
		}
	}
	w.Fatalf("%q: no moment at which %v and %v were current", fixture.Row(r), a.reads, a.writes)
}

func (a *record) fits(current []int) bool {
	for _, e := range a.reads {
		if current[e.object] != e.version {
			return false
		}
	}
	for _, t := range a.writes {
		if current[t.object] != t.old {
			return false
		}
	}
	return true
}

// skew holds the committed attempts against 8.19.
func (w *watch) skew() {
	w.Helper()
	slices.SortFunc(w.done, func(a, b *record) int { return a.final - b.final })
	last := slices.Clone(w.moments[0])
	for i, a := range w.done {
		for _, e := range a.reads {
			if e.version != last[e.object] {
				w.Fatalf("attempt %d read %v, the last version is %d", a.number, e, last[e.object])
			}
			w.behind(w.done[i+1:], e)
		}
		for _, t := range a.writes {
			if t.old != last[t.object] {
				w.Fatalf("attempt %d took %v, the last version is %d", a.number, t, last[t.object])
			}
			last[t.object] = t.fresh
		}
	}
	if !slices.Equal(last, w.moments[len(w.moments)-1]) {
		w.Fatalf("the last versions are %v, want %v", w.moments[len(w.moments)-1], last)
	}
}

// behind looks that the later ones acquired what was read behind the last look at it.
func (w *watch) behind(later []*record, e read) {
	w.Helper()
	for _, b := range later {
		for _, t := range b.writes {
			if t.object == e.object && t.when <= e.lastly {
				w.Fatalf("attempt %d took %v, which was looked at later: %v", b.number, t, e)
			}
		}
	}
}
