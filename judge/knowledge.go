package judge

import (
	"slices"

	"braid/api"
)

// fact is a value of an object that an attempt holds or has taken. What is taken has no entry, for no release lets go of
// it, as of a read of the entry -1.
type fact struct {
	object, entry int
	value         api.Value
}

// saw is what became of a value that was told.
type saw struct {
	fits  bool
	fresh bool // it is a fact that was not known ahead of its row
	fact  fact
}

// knowledge is what an attempt knows, as far as its rows were gone through.
type knowledge struct {
	own   map[int]api.Value
	facts []fact
	given []api.Given // of each entry what was told with it first, and whether it was released
}

func newKnowledge() *knowledge { return &knowledge{own: map[int]api.Value{}} }

// learn goes on by a row, and answers what became of its saw, if it tells.
func (k *knowledge) learn(r api.Row) saw {
	var s saw
	if r.Kind == api.RowRelease && r.Entry != none {
		k.forget(func(f fact) bool { return f.entry == r.Entry })
		k.given[r.Entry].Use = true
	}
	if r.Told {
		s = k.see(r)
	}
	if r.Puts {
		k.own[r.Object] = r.Put
	}
	return s
}

// see goes on by what a row tells.
func (k *knowledge) see(r api.Row) saw {
	again := k.count(r)
	own, mine := k.own[r.Object]
	f := fact{r.Object, r.Entry, r.Value}
	switch {
	case mine:
		return saw{fits: own == r.Value}
	case r.Phase == api.PhaseWrite:
		k.forget(func(f fact) bool { return f.object == r.Object })
		k.own[r.Object] = r.Value
		f.entry = none
	case again:
		return saw{fits: slices.Contains(k.facts, f)}
	}
	k.facts = append(k.facts, f)
	return saw{fits: true, fresh: true, fact: f}
}

// count tells whether a row has told with this one's entry before. Entries come in their order (15.1), so their number is
// enough to know them.
func (k *knowledge) count(r api.Row) bool {
	if r.Entry == len(k.given) {
		k.given = append(k.given, api.Given{Value: r.Value.Num})
		return false
	}
	return r.Entry != none
}

func (k *knowledge) forget(which func(fact) bool) { k.facts = slices.DeleteFunc(k.facts, which) }
