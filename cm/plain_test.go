package cm_test

import (
	"math/big"

	"braid/api"
)

// dice gives the same numbers at every run.
type dice uint64

func (d *dice) roll() uint64 {
	*d ^= *d << 13
	*d ^= *d >> 7
	*d ^= *d << 17
	return uint64(*d)
}

func (d *dice) below(n int) int { return int(d.roll() % uint64(n)) }

// number gives an edge, a small number, or any one.
func (d *dice) number() int64 {
	switch d.below(4) {
	case 0:
		return edges[d.below(len(edges))]
	case 1:
		return int64(d.roll())
	}
	return int64(d.below(24)) - 8
}

// conflict gives one with all its fields thrown.
func (d *dice) conflict() api.Conflict {
	return api.Conflict{
		Mine:   d.number(),
		Theirs: d.number(),
		Born:   d.number(),
		Enemy:  d.number(),
		Flag:   d.below(4) == 0,
		Tries:  int(d.number()),
		Waited: int(d.number()),
		Draw:   d.number(),
	}
}

// bits tells the lowest n bits of a draw, bit by bit.
func bits(n int, draw int64) int {
	sum := 0
	for i := range n {
		if uint64(draw)>>i%2 == 1 {
			sum += 1 << i
		}
	}
	return sum
}

// greater tells whether mine and tries, summed without bound and then brought back between the ends, are greater than theirs.
func greater(mine int64, tries int, theirs int64) bool {
	sum := new(big.Int).Add(big.NewInt(mine), big.NewInt(int64(tries)))
	if sum.Cmp(big.NewInt(most)) > 0 {
		sum.SetInt64(most)
	}
	return sum.Cmp(big.NewInt(theirs)) > 0
}

// own is the kind's own rule, by 6.4: 0 is an abort, else so many steps to wait.
func own(kind int, c api.Conflict) int {
	switch kind {
	case api.Polite:
		if c.Tries > 7 {
			return 0
		}
		return 1 + bits(c.Tries, c.Draw)
	case api.Karma:
		if greater(c.Mine, c.Tries, c.Theirs) {
			return 0
		}
		return 4
	case api.Polka:
		if greater(c.Mine, c.Tries, c.Theirs) {
			return 0
		}
		if c.Tries > 7 {
			return 1 + bits(7, c.Draw)
		}
		return 1 + bits(c.Tries, c.Draw)
	case api.Greedy:
		if c.Flag || c.Enemy > c.Born {
			return 0
		}
		return 4
	}
	positive := [16]int{1: 1, 3: 2, 5: 3, 7: 4, 9: 5, 11: 6, 13: 7, 15: 8}
	negative := [16]int{1: 9, 3: 10, 5: 11, 7: 12, 9: 13, 11: 14, 13: 15, 15: 16}
	if c.Draw < 0 {
		return negative[bits(4, c.Draw)]
	}
	return positive[bits(4, c.Draw)]
}

// plain is the verdict by 6.4 and 6.5.
func plain(kind int, patience int, c api.Conflict) api.Verdict {
	if c.Tries < 0 {
		c.Tries = 0
	}
	if c.Waited < 0 {
		c.Waited = 0
	}
	steps := own(kind, c)
	switch {
	case steps == 0:
		return abort
	case kind == api.Oracle:
		return wait(steps)
	case c.Waited >= patience:
		return timeout
	case steps > patience-c.Waited:
		return wait(patience - c.Waited)
	}
	return wait(steps)
}
