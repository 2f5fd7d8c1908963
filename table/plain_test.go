package table_test

import (
	"math"
	"slices"
	"testing"

	"braid/api"
	"braid/table"
)

// dice gives the same numbers at every run.
type dice uint64

func (d *dice) roll() uint64 {
	*d ^= *d << 13
	*d ^= *d >> 7
	*d ^= *d << 17
	return uint64(*d)
}

func (d *dice) below(n int) int { return int(d.roll() % uint64(n)) }

// objects that are thrown: few, so that they meet again; the ends of int among them.
var objects = []int{0, 1, 2, 3, 4, 7, -1, -2, -9, math.MinInt, math.MinInt + 1, math.MaxInt, math.MaxInt - 1}

// version gives an end, or a small number of either sign.
func (d *dice) version() int {
	switch d.below(8) {
	case 0:
		return math.MinInt
	case 1:
		return math.MaxInt
	}
	return d.below(9) - 4
}

// read is one that was ever added.
type read struct {
	object, version int
	fate            table.Fate
}

// plain is a table as the chapter tells it: the list of all reads, by ordinal, gone through from the front for every answer.
type plain []read

// entries tells those that are held.
func (p plain) entries() []table.Entry {
	var held []table.Entry
	for i, r := range p {
		if r.fate == table.Held {
			held = append(held, table.Entry{Object: r.object, Version: r.version, Ordinal: i})
		}
	}
	return held
}

func (p plain) find(object int) (table.Entry, api.Errno) {
	for _, e := range p.entries() {
		if e.Object == object {
			return e, api.OK
		}
	}
	return table.Entry{}, api.ErrNotHeld
}

func (p plain) at(place int) (table.Entry, api.Errno) {
	for i, e := range p.entries() {
		if i == place {
			return e, api.OK
		}
	}
	return table.Entry{}, api.ErrPlace
}

func (p plain) fateOf(ordinal int) (table.Fate, api.Errno) {
	for i, r := range p {
		if i == ordinal {
			return r.fate, api.OK
		}
	}
	return 0, api.ErrPlace
}

func (p *plain) add(object, version int) (int, api.Errno) {
	if _, e := p.find(object); e == api.OK {
		return 0, api.ErrHeld
	}
	*p = append(*p, read{object, version, table.Held})
	return len(*p) - 1, api.OK
}

func (p plain) take(object int, fate table.Fate) (table.Entry, api.Errno) {
	entry, e := p.find(object)
	if e == api.OK {
		p[entry.Ordinal].fate = fate
	}
	return entry, e
}

// same holds all that a table answers against a plain one, at all objects that are thrown, and at places and ordinals beyond both ends.
func same(t *testing.T, x *table.Table, p plain) {
	t.Helper()
	held := p.entries()
	if got := x.Entries(); !slices.Equal(got, held) {
		t.Fatalf("Entries() = %v, want %v", got, held)
	}
	if x.Len() != len(held) || x.Added() != len(p) {
		t.Fatalf("Len() %d, Added() %d, want %d and %d", x.Len(), x.Added(), len(held), len(p))
	}
	for _, o := range objects {
		got, e := x.Find(o)
		if want, f := p.find(o); got != want || e != f {
			t.Fatalf("Find(%d) = %v, %d, want %v, %d", o, got, e, want, f)
		}
	}
	for _, i := range around(len(held)) {
		got, e := x.At(i)
		if want, f := p.at(i); got != want || e != f {
			t.Fatalf("At(%d) = %v, %d, want %v, %d", i, got, e, want, f)
		}
	}
	for _, i := range around(len(p)) {
		got, e := x.FateOf(i)
		if want, f := p.fateOf(i); got != want || e != f {
			t.Fatalf("FateOf(%d) = %d, %d, want %d, %d", i, got, e, want, f)
		}
	}
}

// around gives 0 to n - 1, and what lies beyond on both sides.
func around(n int) []int {
	list := []int{math.MinInt, math.MinInt + 1, -n, -2, -1, n, n + 1, math.MaxInt - 1, math.MaxInt}
	for i := range n {
		list = append(list, i)
	}
	return list
}

// act does one thrown call with both, and holds the answers against one another.
func act(t *testing.T, d *dice, x *table.Table, p *plain) {
	t.Helper()
	object := objects[d.below(len(objects))]
	switch d.below(5) {
	case 0, 1, 2:
		version := d.version()
		got, e := x.Add(object, version)
		if want, f := p.add(object, version); got != want || e != f {
			t.Fatalf("Add(%d, %d) = %d, %d, want %d, %d", object, version, got, e, want, f)
		}
	case 3:
		got, e := x.Release(object)
		if want, f := p.take(object, table.Released); got != want || e != f {
			t.Fatalf("Release(%d) = %v, %d, want %v, %d", object, got, e, want, f)
		}
	case 4:
		got, e := x.Upgrade(object)
		if want, f := p.take(object, table.Upgraded); got != want || e != f {
			t.Fatalf("Upgrade(%d) = %v, %d, want %v, %d", object, got, e, want, f)
		}
	}
}

// P7.1 to P7.6, call behind call, against the plain table.
func TestPlays(t *testing.T) {
	d := dice(88172645463325252)
	for range 60 {
		x, p := table.New(), plain{}
		for range 120 {
			act(t, &d, x, &p)
			same(t, x, p)
		}
	}
}

// P7.7: a family of tables, copies of copies among them, each of which goes on alone; a list of one that is written full changes none.
func TestPlaysOfCopies(t *testing.T) {
	d := dice(362436069)
	for range 40 {
		family, plains := []*table.Table{{}}, []plain{nil}
		for range 150 {
			i := d.below(len(family))
			if len(family) < 8 && d.below(12) == 0 {
				family = append(family, family[i].Copy())
				plains = append(plains, slices.Clone(plains[i]))
				continue
			}
			if d.below(6) == 0 {
				spoil(family[i].Entries())
			}
			act(t, &d, family[i], &plains[i])
			for k := range family {
				same(t, family[k], plains[k])
			}
		}
	}
}

// spoil writes a list full, its spare room too.
func spoil(list []table.Entry) {
	list = list[:cap(list)]
	for i := range list {
		list[i] = table.Entry{Object: 99, Version: 98, Ordinal: 97}
	}
}
