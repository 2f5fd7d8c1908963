package table_test

import (
	"math"
	"slices"
	"testing"

	"braid/api"
	"braid/table"
)

// entry writes an entry short.
func entry(object, version, ordinal int) table.Entry {
	return table.Entry{Object: object, Version: version, Ordinal: ordinal}
}

func add(t *testing.T, x *table.Table, object, version, want int, f api.Errno) {
	t.Helper()
	if got, e := x.Add(object, version); got != want || e != f {
		t.Fatalf("Add(%d, %d) = %d, %d, want %d, %d", object, version, got, e, want, f)
	}
}

func find(t *testing.T, x *table.Table, object int, want table.Entry, f api.Errno) {
	t.Helper()
	if got, e := x.Find(object); got != want || e != f {
		t.Fatalf("Find(%d) = %v, %d, want %v, %d", object, got, e, want, f)
	}
}

func at(t *testing.T, x *table.Table, place int, want table.Entry, f api.Errno) {
	t.Helper()
	if got, e := x.At(place); got != want || e != f {
		t.Fatalf("At(%d) = %v, %d, want %v, %d", place, got, e, want, f)
	}
}

func release(t *testing.T, x *table.Table, object int, want table.Entry, f api.Errno) {
	t.Helper()
	if got, e := x.Release(object); got != want || e != f {
		t.Fatalf("Release(%d) = %v, %d, want %v, %d", object, got, e, want, f)
	}
}

func upgrade(t *testing.T, x *table.Table, object int, want table.Entry, f api.Errno) {
	t.Helper()
	if got, e := x.Upgrade(object); got != want || e != f {
		t.Fatalf("Upgrade(%d) = %v, %d, want %v, %d", object, got, e, want, f)
	}
}

func fate(t *testing.T, x *table.Table, ordinal int, want table.Fate, f api.Errno) {
	t.Helper()
	if got, e := x.FateOf(ordinal); got != want || e != f {
		t.Fatalf("FateOf(%d) = %d, %d, want %d, %d", ordinal, got, e, want, f)
	}
}

// counts holds Len and Added against what they are to be.
func counts(t *testing.T, x *table.Table, length, added int) {
	t.Helper()
	if x.Len() != length || x.Added() != added {
		t.Fatalf("Len() %d, Added() %d, want %d and %d", x.Len(), x.Added(), length, added)
	}
}

// holds looks at the entries by every call that tells them.
func holds(t *testing.T, x *table.Table, want ...table.Entry) {
	t.Helper()
	if got := x.Entries(); !slices.Equal(got, want) || x.Len() != len(want) {
		t.Fatalf("Entries() = %v, Len() %d, want %v", got, x.Len(), want)
	}
	for i, w := range want {
		at(t, x, i, w, api.OK)
		find(t, x, w.Object, w, api.OK)
	}
	at(t, x, len(want), table.Entry{}, api.ErrPlace)
}

// The numbers of the fates are what the chapter says.
func TestFates(t *testing.T) {
	if table.Held != 1 || table.Released != 2 || table.Upgraded != 3 {
		t.Errorf("fates %d %d %d, want 1 2 3", table.Held, table.Released, table.Upgraded)
	}
}

// Examples 1 to 5, one behind the other.
func TestExamples(t *testing.T) {
	x := table.New()
	add(t, x, 4, 10, 0, api.OK)
	add(t, x, -2, 10, 1, api.OK)
	add(t, x, 4, 11, 0, api.ErrHeld)
	add(t, x, 7, 12, 2, api.OK)
	counts(t, x, 3, 3)

	release(t, x, -2, entry(-2, 10, 1), api.OK)
	holds(t, x, entry(4, 10, 0), entry(7, 12, 2))
	at(t, x, 1, entry(7, 12, 2), api.OK)
	at(t, x, 2, table.Entry{}, api.ErrPlace)
	at(t, x, -1, table.Entry{}, api.ErrPlace)

	add(t, x, -2, 15, 3, api.OK)
	holds(t, x, entry(4, 10, 0), entry(7, 12, 2), entry(-2, 15, 3))
	fate(t, x, 1, table.Released, api.OK)
	fate(t, x, 3, table.Held, api.OK)
	fate(t, x, 4, 0, api.ErrPlace)
	fate(t, x, -1, 0, api.ErrPlace)

	upgrade(t, x, 4, entry(4, 10, 0), api.OK)
	find(t, x, 4, table.Entry{}, api.ErrNotHeld)
	upgrade(t, x, 4, table.Entry{}, api.ErrNotHeld)
	fate(t, x, 0, table.Upgraded, api.OK)
	counts(t, x, 2, 4)

	c := x.Copy()
	release(t, c, 7, entry(7, 12, 2), api.OK)
	find(t, x, 7, entry(7, 12, 2), api.OK)
	fate(t, x, 2, table.Held, api.OK)
	fate(t, c, 2, table.Released, api.OK)
	add(t, c, 7, 1, 4, api.OK)
	counts(t, x, 2, 4)
	counts(t, c, 2, 5)
}

// empties gives tables that hold nothing and were never added to, however they came to be.
func empties() []*table.Table {
	return []*table.Table{table.New(), {}, new(table.Table), table.New().Copy(), new(table.Table).Copy().Copy()}
}

// P7.1 and the zero Table: every call of an empty one.
func TestEmpty(t *testing.T) {
	for i, x := range empties() {
		for range 2 {
			counts(t, x, 0, 0)
			if got := x.Entries(); len(got) != 0 {
				t.Fatalf("table %d: Entries() = %v", i, got)
			}
			for _, n := range around(0) {
				find(t, x, n, table.Entry{}, api.ErrNotHeld)
				at(t, x, n, table.Entry{}, api.ErrPlace)
				release(t, x, n, table.Entry{}, api.ErrNotHeld)
				upgrade(t, x, n, table.Entry{}, api.ErrNotHeld)
				fate(t, x, n, 0, api.ErrPlace)
			}
		}
		add(t, x, 0, 0, 0, api.OK)
		holds(t, x, entry(0, 0, 0))
		counts(t, x, 1, 1)
		fate(t, x, 0, table.Held, api.OK)
	}
}

// The zero Table, each call the first one and the table in use behind it.
func TestZero(t *testing.T) {
	var a, b, c table.Table
	add(t, &a, 5, 6, 0, api.OK)
	add(t, &a, 5, 6, 0, api.ErrHeld)
	release(t, &a, 5, entry(5, 6, 0), api.OK)
	fate(t, &a, 0, table.Released, api.OK)
	counts(t, &a, 0, 1)

	add(t, b.Copy(), 5, 6, 0, api.OK)
	counts(t, &b, 0, 0)
	add(t, &b, 5, 7, 0, api.OK)
	upgrade(t, &b, 5, entry(5, 7, 0), api.OK)
	fate(t, &b, 0, table.Upgraded, api.OK)

	release(t, &c, 5, table.Entry{}, api.ErrNotHeld)
	add(t, &c, 1, 1, 0, api.OK)
	holds(t, &c, entry(1, 1, 0))
}

// P7.1: tables that are made apart share nothing.
func TestNewApart(t *testing.T) {
	x, y := table.New(), table.New()
	add(t, x, 1, 1, 0, api.OK)
	counts(t, y, 0, 0)
	find(t, y, 1, table.Entry{}, api.ErrNotHeld)
	add(t, y, 1, 2, 0, api.OK)
	holds(t, x, entry(1, 1, 0))
	holds(t, y, entry(1, 2, 0))
}

// P7.2 and P7.3: objects and versions are any int, and mean nothing.
func TestEnds(t *testing.T) {
	x := table.New()
	for i, n := range []int{math.MinInt, math.MaxInt, -1, 0, 1, math.MinInt + 1, math.MaxInt - 1} {
		add(t, x, n, -n, i, api.OK)
		add(t, x, n, n, 0, api.ErrHeld)
		find(t, x, n, entry(n, -n, i), api.OK)
	}
	release(t, x, math.MinInt, entry(math.MinInt, math.MinInt, 0), api.OK)
	upgrade(t, x, math.MaxInt, entry(math.MaxInt, -math.MaxInt, 1), api.OK)
	add(t, x, math.MinInt, math.MaxInt, 7, api.OK)
	add(t, x, math.MaxInt, math.MinInt, 8, api.OK)
	holds(t, x, entry(-1, 1, 2), entry(0, 0, 3), entry(1, -1, 4), entry(math.MinInt+1, math.MaxInt, 5),
		entry(math.MaxInt-1, -(math.MaxInt-1), 6), entry(math.MinInt, math.MaxInt, 7), entry(math.MaxInt, math.MinInt, 8))
}

// P7.2: an object that stands there is refused whatever the version, and nothing has changed; several objects may have one version.
func TestAddHeld(t *testing.T) {
	x := table.New()
	add(t, x, 3, 5, 0, api.OK)
	add(t, x, 4, 5, 1, api.OK)
	for _, v := range []int{5, 6, 0, -1, math.MinInt, math.MaxInt} {
		add(t, x, 3, v, 0, api.ErrHeld)
		add(t, x, 4, v, 0, api.ErrHeld)
	}
	counts(t, x, 2, 2)
	fate(t, x, 2, 0, api.ErrPlace)
	holds(t, x, entry(3, 5, 0), entry(4, 5, 1))
	add(t, x, 5, 5, 2, api.OK)
}

// takeOut releases or upgrades, as the fate says.
func takeOut(t *testing.T, x *table.Table, object int, f table.Fate, want table.Entry) {
	t.Helper()
	if f == table.Released {
		release(t, x, object, want, api.OK)
	} else {
		upgrade(t, x, object, want, api.OK)
	}
}

// both are the fates of what was taken out.
var both = []table.Fate{table.Released, table.Upgraded}

// P7.2 and P7.5: one that was taken out and is added again has a new ordinal and the last place, over and over; the fates ahead of it stay as they are.
func TestAgain(t *testing.T) {
	x := table.New()
	add(t, x, 9, 100, 0, api.OK)
	add(t, x, 8, 50, 1, api.OK)
	takeOut(t, x, 9, table.Released, entry(9, 100, 0))
	holds(t, x, entry(8, 50, 1))
	fates := []table.Fate{table.Released, table.Held}
	for i := range 20 {
		ordinal, f := 2+i, both[i%3%2]
		add(t, x, 9, i, ordinal, api.OK)
		holds(t, x, entry(8, 50, 1), entry(9, i, ordinal))
		fate(t, x, ordinal, table.Held, api.OK)
		takeOut(t, x, 9, f, entry(9, i, ordinal))
		find(t, x, 9, table.Entry{}, api.ErrNotHeld)
		fates = append(fates, f)
		for k, want := range fates {
			fate(t, x, k, want, api.OK)
		}
		counts(t, x, 1, len(fates))
	}
}

// five makes a table of the objects 10 to 14 with the versions 20 to 24.
func five(t *testing.T) *table.Table {
	t.Helper()
	x := table.New()
	for i := range 5 {
		add(t, x, 10+i, 20+i, i, api.OK)
	}
	return x
}

// P7.4: any one of five taken out, in either way: those behind it move up and are found at their new places, those ahead of it stay; the two ways differ in the fate alone.
func TestTakeOneOut(t *testing.T) {
	for _, f := range both {
		for out := range 5 {
			x := five(t)
			takeOut(t, x, 10+out, f, entry(10+out, 20+out, out))
			var left []table.Entry
			for i := range 5 {
				if i != out {
					left = append(left, entry(10+i, 20+i, i))
					fate(t, x, i, table.Held, api.OK)
				}
			}
			holds(t, x, left...)
			fate(t, x, out, f, api.OK)
			find(t, x, 10+out, table.Entry{}, api.ErrNotHeld)
			counts(t, x, 4, 5)
		}
	}
}

// P7.4: all five taken out, the front first, the back first, the middle first, down to an empty table that goes on counting.
func TestTakeAllOut(t *testing.T) {
	for _, order := range [][]int{{0, 1, 2, 3, 4}, {4, 3, 2, 1, 0}, {2, 1, 3, 0, 4}, {2, 3, 1, 4, 0}, {0, 4, 2, 3, 1}} {
		x := five(t)
		left := x.Entries()
		for n, out := range order {
			takeOut(t, x, 10+out, both[n%2], entry(10+out, 20+out, out))
			left = slices.DeleteFunc(left, func(e table.Entry) bool { return e.Ordinal == out })
			holds(t, x, left...)
			fate(t, x, out, both[n%2], api.OK)
			counts(t, x, 4-n, 5)
		}
		at(t, x, 0, table.Entry{}, api.ErrPlace)
		at(t, x, -1, table.Entry{}, api.ErrPlace)
		add(t, x, 10, 1, 5, api.OK)
		holds(t, x, entry(10, 1, 5))
	}
}

// P7.4 and R2: a call that is refused changes nothing: not the entries, not the counts, not a fate.
func TestRefused(t *testing.T) {
	x := five(t)
	release(t, x, 11, entry(11, 21, 1), api.OK)
	upgrade(t, x, 13, entry(13, 23, 3), api.OK)
	for range 3 {
		for _, o := range []int{11, 13, 0, -1, 15, 9, math.MinInt, math.MaxInt} {
			release(t, x, o, table.Entry{}, api.ErrNotHeld)
			upgrade(t, x, o, table.Entry{}, api.ErrNotHeld)
			find(t, x, o, table.Entry{}, api.ErrNotHeld)
		}
		add(t, x, 10, 1, 0, api.ErrHeld)
		add(t, x, 14, 24, 0, api.ErrHeld)
		for _, n := range []int{-1, 3, 4, 5, math.MinInt, math.MaxInt} {
			at(t, x, n, table.Entry{}, api.ErrPlace)
		}
		for _, n := range []int{-1, 5, 6, math.MinInt, math.MaxInt} {
			fate(t, x, n, 0, api.ErrPlace)
		}
		holds(t, x, entry(10, 20, 0), entry(12, 22, 2), entry(14, 24, 4))
		counts(t, x, 3, 5)
		for i, want := range []table.Fate{table.Held, table.Released, table.Held, table.Upgraded, table.Held} {
			fate(t, x, i, want, api.OK)
		}
	}
	add(t, x, 11, 0, 5, api.OK)
}

// P7.5: a fate that is Released or Upgraded never changes again, whatever becomes of the same object later.
func TestFateStays(t *testing.T) {
	for _, first := range both {
		for _, second := range both {
			x := table.New()
			add(t, x, 1, 1, 0, api.OK)
			takeOut(t, x, 1, first, entry(1, 1, 0))
			release(t, x, 1, table.Entry{}, api.ErrNotHeld)
			upgrade(t, x, 1, table.Entry{}, api.ErrNotHeld)
			fate(t, x, 0, first, api.OK)
			add(t, x, 1, 1, 1, api.OK)
			fate(t, x, 0, first, api.OK)
			fate(t, x, 1, table.Held, api.OK)
			takeOut(t, x, 1, second, entry(1, 1, 1))
			fate(t, x, 0, first, api.OK)
			fate(t, x, 1, second, api.OK)
		}
	}
}

// P7.7 and R3: lists of Entries that are written full, appended to and sorted change no table, and no two of them share memory.
func TestListsAreNew(t *testing.T) {
	x := five(t)
	release(t, x, 12, entry(12, 22, 2), api.OK)
	c := x.Copy()
	want := []table.Entry{entry(10, 20, 0), entry(11, 21, 1), entry(13, 23, 3), entry(14, 24, 4)}
	kept := x.Entries()
	for _, y := range []*table.Table{x, c} {
		a, b := y.Entries(), y.Entries()
		a = append(a, entry(1, 2, 3))
		spoil(a)
		if !slices.Equal(b, want) {
			t.Fatalf("a list changed with another one: %v", b)
		}
		spoil(append(b[:0], entry(5, 5, 5)))
		holds(t, x, want...)
		holds(t, c, want...)
	}
	// and the other way: a list that was answered stays as the table goes on
	upgrade(t, x, 10, want[0], api.OK)
	add(t, x, 77, 7, 5, api.OK)
	if !slices.Equal(kept, want) {
		t.Fatalf("a list changed with its table: %v", kept)
	}
}

// P7.7: a copy and its original have nothing to do with one another, whichever of them goes on.
func TestCopyApart(t *testing.T) {
	for _, turned := range []bool{false, true} {
		x := five(t)
		release(t, x, 11, entry(11, 21, 1), api.OK)
		y := x.Copy()
		if turned {
			x, y = y, x
		}
		still := []table.Entry{entry(10, 20, 0), entry(12, 22, 2), entry(13, 23, 3), entry(14, 24, 4)}
		holds(t, y, still...)
		release(t, x, 10, entry(10, 20, 0), api.OK)
		upgrade(t, x, 13, entry(13, 23, 3), api.OK)
		add(t, x, 11, 1, 5, api.OK)
		add(t, x, 10, 2, 6, api.OK)
		holds(t, x, entry(12, 22, 2), entry(14, 24, 4), entry(11, 1, 5), entry(10, 2, 6))
		holds(t, y, still...)
		counts(t, y, 4, 5)
		find(t, y, 11, table.Entry{}, api.ErrNotHeld)
		fate(t, y, 0, table.Held, api.OK)
		fate(t, y, 1, table.Released, api.OK)
		fate(t, y, 3, table.Held, api.OK)
		fate(t, y, 5, 0, api.ErrPlace)
		add(t, y, 30, 3, 5, api.OK)
		upgrade(t, y, 30, entry(30, 3, 5), api.OK)
		fate(t, x, 5, table.Held, api.OK)
		find(t, x, 30, table.Entry{}, api.ErrNotHeld)
	}
}

// P7.7: so do copies of copies, and copies of one table among each other.
func TestCopiesOfCopies(t *testing.T) {
	chain := []*table.Table{five(t)}
	for range 4 {
		chain = append(chain, chain[len(chain)-1].Copy())
	}
	chain = append(chain, chain[0].Copy(), chain[0].Copy(), chain[2].Copy())
	for i, x := range chain {
		takeOut(t, x, 10+i%5, both[i%2], entry(10+i%5, 20+i%5, i%5))
		add(t, x, 100+i, i, 5, api.OK)
	}
	for i, x := range chain {
		var want []table.Entry
		for k := range 5 {
			if k == i%5 {
				fate(t, x, k, both[i%2], api.OK)
				continue
			}
			fate(t, x, k, table.Held, api.OK)
			want = append(want, entry(10+k, 20+k, k))
		}
		holds(t, x, append(want, entry(100+i, i, 5))...)
		counts(t, x, 5, 6)
	}
}

// There is no limit to a table's length.
func TestLong(t *testing.T) {
	const n = 100000
	x := table.New()
	for i := range n {
		add(t, x, -i, i, i, api.OK)
	}
	counts(t, x, n, n)
	at(t, x, n, table.Entry{}, api.ErrPlace)
	at(t, x, n-1, entry(1-n, n-1, n-1), api.OK)
	release(t, x, 0, entry(0, 0, 0), api.OK)
	at(t, x, 0, entry(-1, 1, 1), api.OK)
	find(t, x, 1-n, entry(1-n, n-1, n-1), api.OK)
	upgrade(t, x, 1-n, entry(1-n, n-1, n-1), api.OK)
	counts(t, x, n-2, n)
	add(t, x, 0, 0, n, api.OK)
	at(t, x, n-2, entry(0, 0, n), api.OK)
}
