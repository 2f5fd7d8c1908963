package judge

import (
	"cmp"
	"math"
	"slices"

	"braid/api"
)

// never is behind all steps.
const never = math.MaxInt

// change is a value that an object has from a step on.
type change struct {
	step  int
	value api.Value
}

// past is the committed values of each object, one behind the other.
type past [][]change

// pastOf works out of rows that may stand, and their attempts, when each committed value came.
func pastOf(first []api.Value, rows []api.Row, txs []api.Tx) past {
	p := make(past, len(first))
	for object, v := range first {
		p[object] = []change{{none, v}}
	}
	for _, r := range rows {
		if r.End != api.EndCommit {
			continue
		}
		for _, w := range txs[r.Attempt-1].Writes {
			if w.Object < len(p) {
				p[w.Object] = append(p[w.Object], change{r.Step, w.Value})
			}
		}
	}
	return p
}

// moments tells the moments of all saws of an attempt that begins at a step and has these rows.
func (p past) moments(begin int, rows []api.Row) []int {
	var all []int
	k := newKnowledge()
	for _, r := range rows {
		s := k.learn(r)
		switch {
		case !r.Told:
		case s.fits:
			all = append(all, p.moment(k.facts, begin, r.Step))
		default:
			all = append(all, none)
		}
	}
	return all
}

// moment tells the least step between two behind which all facts are committed values (P16.2).
func (p past) moment(facts []fact, from, to int) int {
	for step := from; step <= to; {
		next := step
		for _, f := range facts {
			next = max(next, p.holds(f, step))
		}
		if next == step {
			return step
		}
		step = next
	}
	return none
}

// holds tells the least step from a step on behind which a fact is a committed value.
func (p past) holds(f fact, from int) int {
	if f.object >= len(p) {
		return never
	}
	changes := p[f.object]
	later, _ := slices.BinarySearchFunc(changes, from+1, func(c change, step int) int { return cmp.Compare(c.step, step) })
	for _, c := range changes[later-1:] {
		if c.value == f.value {
			return max(from, c.step)
		}
	}
	return never
}
