package judge_test

import (
	"math"
	"testing"

	"braid/api"
	"braid/fixture"
)

// told is an attempt of thread 0, the first one of its rows, and the moments of its saws, over the numbers 1, 5 and 8.
type told struct {
	what string
	rows []api.Row
	want []int
}

func (c told) looked(t *testing.T) {
	t.Helper()
	t.Run(c.what, func(t *testing.T) {
		moments(t, fixture.Numbers(1, 5, 8), c.rows, 0, c.want...)
		finding := good()
		for saw, m := range c.want {
			if m < 0 {
				finding = breaks(0, saw)
				break
			}
		}
		opaque(t, fixture.Numbers(1, 5, 8), c.rows, finding)
	})
}

// turned are two transactions of thread 5, eight rows: from the third one on object 0 holds 2, from the seventh one on
// object 1 holds 6. Who still knows that object 0 holds 1 can't have been told the 6.
func turned() []api.Row {
	return append(sets(5, 0, 2), sets(5, 1, 6)...)
}

// 1. What a release does.
func TestReleases(t *testing.T) {
	for _, c := range []told{
		{"held", list(begin(0), reads(0, 0, 0, 1), turned(), reads(0, 1, 1, 6)), []int{0, -1}},
		{"let go", list(begin(0), reads(0, 0, 0, 1), release(0, 0), turned(), reads(0, 1, 1, 6)), []int{0, 9}},
		{"let go later", list(begin(0), reads(0, 0, 0, 1), turned(), release(0, 0), reads(0, 1, 1, 6)), []int{0, 8}},
		{"let go in a release that puts", list(begin(0), reads(0, 0, 0, 1),
			with(release(0, 0), func(r *api.Row) { r.Puts, r.Object, r.Put = true, 2, api.Value{Num: 9} }),
			turned(), reads(0, 1, 1, 6), reread(0, 2, -1, 9)), []int{0, 9, 9}},
		{"let go twice", list(begin(0), reads(0, 0, 0, 1), release(0, 0), release(0, 0), turned(), reads(0, 1, 1, 6)), []int{0, 10}},
		{"let go of another entry", list(begin(0), reads(0, 0, 0, 1), reads(0, 2, 1, 8), release(0, 1), turned(), reads(0, 1, 2, 6)), []int{0, 0, -1}},
		{"let go of the entry -1", list(begin(0), reads(0, 0, 0, 1), release(0, -1), turned(), reads(0, 1, 1, 6)), []int{0, -1}},
		{"whatever the object of the release", list(begin(0), reads(0, 0, 0, 1), reads(0, 2, 1, 8),
			with(release(0, 0), func(r *api.Row) { r.Object = 2 }), turned(), reads(0, 1, 2, 6)), []int{0, 0, 10}},
		{"the one of two reads of an object", list(begin(0), reads(0, 0, 0, 1), reads(0, 0, 1, 1), release(0, 0), turned(), reads(0, 1, 2, 6)), []int{0, 0, -1}},
		{"both reads of an object", list(begin(0), reads(0, 0, 0, 1), reads(0, 0, 1, 1), release(0, 0), release(0, 1), turned(), reads(0, 1, 2, 6)), []int{0, 0, 11}},
		{"of an entry that was told of an own object", list(begin(0), puts(0, 2, 9), reread(0, 2, 0, 9), release(0, 0), turned(), reads(0, 1, 1, 6)), []int{0, 10}},
		{"of an entry that was upgraded", list(begin(0), reads(0, 0, 0, 1), takes(0, 0, 0, 1), release(0, 0), turned(), reads(0, 1, 1, 6)), []int{0, 0, -1}},
		{"with another kind of row", list(begin(0), reads(0, 0, 0, 1),
			with(of(0, api.RowLocal), func(r *api.Row) { r.Object, r.Entry = 0, 0 }), turned(), reads(0, 1, 1, 6)), []int{0, -1}},
		{"of another attempt", list(begin(0), reads(0, 0, 0, 1), begin(4), reads(4, 0, 0, 1), release(4, 0), turned(), reads(0, 1, 1, 6)), []int{0, -1}},
		{"behind a release there is nothing left", list(begin(0), reads(0, 0, 0, 1), release(0, 0), puts(0, 2, 3), reread(0, 2, -1, 3)), []int{0, 0}},
	} {
		c.looked(t)
	}
}

// 2. An own object: what is told is its own value, in either phase and with any entry; nothing else becomes of it.
func TestOwnObjects(t *testing.T) {
	for _, c := range []told{
		{"what was put", list(begin(0), puts(0, 0, 9), reread(0, 0, -1, 9)), []int{0}},
		{"another number", list(begin(0), puts(0, 0, 9), reread(0, 0, -1, 1)), []int{-1}},
		{"what was put last", list(begin(0), puts(0, 0, 9), puts(0, 0, 4), reread(0, 0, -1, 4), reread(0, 0, -1, 9)), []int{0, -1}},
		{"what was put into another object", list(begin(0), puts(0, 0, 9), puts(0, 1, 4), reread(0, 0, -1, 4), reread(0, 1, -1, 4)), []int{-1, 0}},
		{"what was told as it was taken", list(begin(0), takes(0, 0, -1, 1), reread(0, 0, -1, 1), reread(0, 0, -1, 9)), []int{0, 0, -1}},
		{"what was put as it was taken", list(begin(0), writes(0, 0, -1, 1, 9), reread(0, 0, -1, 9), reread(0, 0, -1, 1)), []int{0, 0, -1}},
		{"what was put, not what was told", list(begin(0), takes(0, 0, -1, 1), puts(0, 0, 9), reread(0, 0, -1, 9), reread(0, 0, -1, 1)), []int{0, 0, -1}},
		{"opened for writing", list(begin(0), puts(0, 0, 9), takes(0, 0, -1, 9), takes(0, 0, -1, 1)), []int{0, -1}},
		{"opened for writing, it is not taken", list(begin(0), puts(0, 0, 1), takes(0, 0, -1, 1), turned(), reads(0, 1, 0, 6)), []int{0, 9}},
		{"opened for writing, with a wrong number, it is not taken", list(begin(0), puts(0, 0, 9), takes(0, 0, -1, 4), reread(0, 0, -1, 9)), []int{-1, 0}},
		{"with a fresh entry: it is not held", list(begin(0), puts(0, 0, 1), reads(0, 0, 0, 1), turned(), reads(0, 1, 1, 6)), []int{0, 9}},
		{"told and put at once: told ahead of the put", list(begin(0), puts(0, 0, 9), writes(0, 0, -1, 9, 7), writes(0, 0, -1, 7, 6), writes(0, 0, -1, 9, 5)), []int{0, 0, -1}},
		{"the wrong one is put all the same", list(begin(0), puts(0, 0, 9), writes(0, 0, -1, 8, 7), reread(0, 0, -1, 7)), []int{-1, 0}},
		{"an object that first does not have", list(begin(0), puts(0, 9, 4), reread(0, 9, -1, 4), reread(0, 9, -1, 5)), []int{0, -1}},
		{"an entry that was held still has its read", list(begin(0), reads(0, 0, 0, 1), puts(0, 0, 9), reread(0, 0, 0, 9), reread(0, 0, 0, 1), turned(), reads(0, 1, 1, 6)), []int{0, 0, -1, -1}},
		{"what others put is not its own", list(begin(0), sets(5, 0, 9), reads(0, 0, 0, 9), puts(0, 0, 3), sets(5, 0, 4), reread(0, 0, 0, 4), reread(0, 0, 0, 3)), []int{3, -1, 3}},
	} {
		c.looked(t)
	}
}

// 2. An open for writing of an object that is not own: it is taken, is own, and its reads are held no more.
func TestTakes(t *testing.T) {
	for _, c := range []told{
		{"taken", list(begin(0), takes(0, 0, -1, 1), turned(), reads(0, 1, 0, 6)), []int{0, -1}},
		{"taken, and put into", list(begin(0), writes(0, 0, -1, 1, 9), turned(), reads(0, 1, 0, 6)), []int{0, -1}},
		{"of a number that never stood", list(begin(0), takes(0, 0, -1, 4)), []int{-1}},
		{"of a number that came later", list(begin(0), turned(), takes(0, 0, -1, 2)), []int{3}},
		{"of a number that is gone", list(begin(0), turned(), takes(0, 0, -1, 1)), []int{0}},
		{"its read is held no more", list(begin(0), reads(0, 0, 0, 1), turned(), takes(0, 0, 0, 2), reads(0, 1, 1, 6)), []int{0, 4, 8}},
		{"all its reads are held no more", list(begin(0), reads(0, 0, 0, 1), reads(0, 0, 1, 1), reads(0, 0, -1, 1), turned(), takes(0, 0, 0, 2), reads(0, 1, 2, 6)), []int{0, 0, 0, 6, 10}},
		{"without naming its entry", list(begin(0), reads(0, 0, 0, 1), turned(), takes(0, 0, -1, 2), reads(0, 1, 1, 6)), []int{0, 4, 8}},
		{"with another read's entry: that one is held on", list(begin(0), reads(0, 2, 0, 8), reads(0, 0, 1, 1), turned(), takes(0, 0, 0, 2), reread(0, 2, 0, 8)), []int{0, 0, 5, 5}},
		{"other objects' reads are held on", list(begin(0), reads(0, 0, 0, 1), reads(0, 2, 1, 8), takes(0, 2, 1, 8), turned(), reads(0, 1, 2, 6)), []int{0, 0, 0, -1}},
		{"of an object that first does not have", list(begin(0), takes(0, 3, -1, 0), reads(0, 0, 0, 1)), []int{-1, -1}},
		{"the greatest object", list(begin(0), takes(0, math.MaxInt, -1, 0)), []int{-1}},
	} {
		c.looked(t)
	}
}

// 2. A read with an entry with which a row has told before.
func TestReadsAgain(t *testing.T) {
	for _, c := range []told{
		{"as it was", list(begin(0), reads(0, 0, 0, 1), reread(0, 0, 0, 1)), []int{0, 0}},
		{"as it was, though it is gone", list(begin(0), reads(0, 0, 0, 1), turned(), reread(0, 0, 0, 1)), []int{0, 0}},
		{"another number", list(begin(0), reads(0, 0, 0, 1), turned(), reread(0, 0, 0, 2)), []int{0, -1}},
		{"another number is not held", list(begin(0), reads(0, 0, 0, 1), reread(0, 0, 0, 2), reread(0, 0, 0, 1)), []int{0, -1, 0}},
		{"another object", list(begin(0), reads(0, 0, 0, 5), reread(0, 1, 0, 5)), []int{-1, -1}},
		{"another object with a number that stands", list(begin(0), reads(0, 0, 0, 1), reread(0, 1, 0, 5), turned(), reads(0, 1, 1, 6)), []int{0, -1, -1}},
		{"another read's entry", list(begin(0), reads(0, 0, 0, 1), reads(0, 1, 1, 5), reread(0, 0, 1, 1), reread(0, 1, 0, 5), reread(0, 1, 1, 5), reread(0, 0, 0, 1)), []int{0, 0, -1, -1, 0, 0}},
		{"behind its release", list(begin(0), reads(0, 0, 0, 1), release(0, 0), reread(0, 0, 0, 1)), []int{0, -1}},
		{"behind its release, it is not held again", list(begin(0), reads(0, 0, 0, 1), release(0, 0), reread(0, 0, 0, 1), turned(), reads(0, 1, 1, 6)), []int{0, -1, 10}},
		{"behind its release, with a fresh entry", list(begin(0), reads(0, 0, 0, 1), release(0, 0), reads(0, 0, 1, 1), turned(), reads(0, 1, 2, 6)), []int{0, 0, -1}},
		{"behind the taking of its object: that one's own", list(begin(0), reads(0, 0, 0, 1), takes(0, 0, 0, 1), reread(0, 0, 0, 1)), []int{0, 0, 0}},
		{"of another object, behind the taking of its own", list(begin(0), reads(0, 0, 0, 1), takes(0, 0, 0, 1), reread(0, 1, 0, 5), reread(0, 1, 0, 1)), []int{0, 0, -1, -1}},
		{"told before of an own object", list(begin(0), puts(0, 2, 9), reads(0, 2, 0, 9), reread(0, 0, 0, 1)), []int{0, -1}},
		{"by a row with accesses all the same", list(begin(0), reads(0, 0, 0, 1), reads(0, 0, 0, 1), reads(0, 0, 0, 5)), []int{0, 0, -1}},
		{"a fresh entry by a row without an access", list(begin(0), reread(0, 0, 0, 1), turned(), reread(0, 1, 1, 6)), []int{0, -1}},
		{"two entries of one object with two numbers", list(begin(0), reads(0, 0, 0, 1), turned(), reads(0, 0, 1, 2)), []int{0, -1}},
		{"entries are the attempt's own", list(begin(0), begin(4), reads(4, 0, 0, 1), reads(0, 1, 0, 5), reread(4, 0, 0, 1)), []int{0}},
	} {
		c.looked(t)
	}
}

// 2. Reads of the entry -1: each is a new one, and none is ever let go.
func TestReadsWithoutAnEntry(t *testing.T) {
	for _, c := range []told{
		{"held", list(begin(0), reads(0, 0, -1, 1), turned(), reads(0, 1, -1, 6)), []int{0, -1}},
		{"not let go", list(begin(0), reads(0, 0, -1, 1), release(0, -1), turned(), reads(0, 1, -1, 6)), []int{0, -1}},
		{"again", list(begin(0), reads(0, 0, -1, 1), reads(0, 0, -1, 1)), []int{0, 0}},
		{"again, another number", list(begin(0), reads(0, 0, -1, 1), turned(), reads(0, 0, -1, 2), reread(0, 0, -1, 1)), []int{0, -1, -1}},
		{"no row has told with the entry ahead of it", list(begin(0), reads(0, 1, -1, 5), reads(0, 0, 0, 1), reads(0, 1, -1, 4)), []int{0, 0, -1}},
		{"held no more as it is taken", list(begin(0), reads(0, 0, -1, 1), turned(), takes(0, 0, -1, 2)), []int{0, 4}},
	} {
		c.looked(t)
	}
}

// 3. A row that puts makes the object own, whatever it was; what was told of it stays.
func TestPuts(t *testing.T) {
	for _, c := range []told{
		{"into a held one: its read is held on", list(begin(0), reads(0, 0, 0, 1), puts(0, 0, 9), turned(), reads(0, 1, 1, 6)), []int{0, -1}},
		{"into a held one: its read may be let go", list(begin(0), reads(0, 0, 0, 1), puts(0, 0, 9), release(0, 0), turned(), reads(0, 1, 1, 6)), []int{0, 10}},
		{"in a row that reads: read ahead of the put", list(begin(0), with(reads(0, 0, 0, 1), func(r *api.Row) { r.Puts, r.Put = true, api.Value{Num: 9} }),
			reread(0, 0, -1, 9), turned(), reads(0, 1, 1, 6)), []int{0, 0, -1}},
		{"in a row that takes: taken ahead of the put", list(begin(0), writes(0, 0, -1, 1, 9), reread(0, 0, -1, 9), turned(), reads(0, 1, 0, 6)), []int{0, 0, -1}},
		{"in a row that takes: a wrong number told", list(begin(0), writes(0, 0, -1, 9, 1)), []int{-1}},
		{"of its own it does not know more", list(begin(0), puts(0, 0, 77), reads(0, 1, 0, 5)), []int{0}},
		{"nothing, where Puts is not set", list(begin(0), with(reads(0, 0, 0, 1), func(r *api.Row) { r.Put = api.Value{Num: 9} }), reread(0, 0, 0, 1), takes(0, 0, 0, 9)), []int{0, 0, -1}},
		{"nothing is told, where Told is not set", list(begin(0), with(puts(0, 0, 9), func(r *api.Row) { r.Value, r.Phase, r.Entry = api.Value{Num: 4}, api.PhaseRead, 0 }), reads(0, 1, 0, 5)), []int{0}},
	} {
		c.looked(t)
	}
}

// A value is the same as another, if all three fields are.
func TestAllFieldsOfValues(t *testing.T) {
	v := api.Value{Num: 3, Next: 7, Dead: true}
	first := []api.Value{v}
	say := func(r api.Row, v api.Value) api.Row { return with(r, func(r *api.Row) { r.Value = v }) }
	put := func(r api.Row, v api.Value) api.Row { return with(r, func(r *api.Row) { r.Put = v }) }
	moments(t, first, list(begin(0), say(reads(0, 0, 0, 0), v), say(reread(0, 0, 0, 0), v), say(takes(0, 0, 0, 0), v), say(reread(0, 0, -1, 0), v)), 0, 0, 0, 0, 0)
	for _, w := range []api.Value{{Num: 4, Next: 7, Dead: true}, {Num: 3, Next: 6, Dead: true}, {Num: 3, Next: 7}} {
		moments(t, first, list(begin(0), say(reads(0, 0, 0, 0), w)), 0, -1)
		moments(t, first, list(begin(0), say(takes(0, 0, -1, 0), w)), 0, -1)
		moments(t, first, list(begin(0), say(reads(0, 0, 0, 0), v), say(reread(0, 0, 0, 0), w)), 0, 0, -1)
		moments(t, first, list(begin(0), say(takes(0, 0, -1, 0), v), say(reread(0, 0, -1, 0), w)), 0, 0, -1)
		moments(t, first, list(begin(0), put(puts(0, 0, 0), w), say(reread(0, 0, -1, 0), v), say(reread(0, 0, -1, 0), w)), 0, -1, 0)
		// what another one puts is told with all its fields
		change := list(begin(0), begin(5), put(puts(5, 0, 0), w), commit(5))
		moments(t, first, list(change, say(reads(0, 0, 0, 0), w)), 0, 3)
		moments(t, first, list(change, say(reads(0, 0, 0, 0), v)), 0, 0)
	}
}
