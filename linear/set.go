package linear

import (
	"maps"
	"math"
	"slices"

	"braid/api"
)

// set is a set of numbers.
type set map[int64]struct{}

func (s set) has(n int64) bool {
	_, is := s[n]
	return is
}

func (s set) put(n int64) { s[n] = struct{}{} }

// least is the least number of a set that is not empty.
func (s set) least() int64 {
	least := int64(math.MaxInt64)
	for n := range s {
		least = min(least, n)
	}
	return least
}

// numbers tells them sorted, for a map has no order.
func (s set) numbers() []int64 { return slices.Sorted(maps.Keys(s)) }

// reply is what a set answers.
type reply struct {
	yes    bool
	result int64
}

// take takes a number out, if it is in.
func (s set) take(n int64) reply {
	in := s.has(n)
	delete(s, n)
	return reply{yes: in}
}

// do lets a call have its effect, and tells what the set answers.
func (s set) do(c api.Call) reply {
	switch c.Kind {
	case api.JobInsert:
		in := s.has(c.Key)
		s.put(c.Key)
		return reply{yes: !in}
	case api.JobRemove:
		return s.take(c.Key)
	case api.JobContains:
		return reply{yes: s.has(c.Key)}
	case api.JobLeast:
		if len(s) == 0 {
			return reply{}
		}
		least := s.least()
		s.take(least)
		return reply{true, least}
	case api.JobSize:
		return reply{true, int64(len(s))}
	}
	if !s.has(c.Key) || s.has(c.Other) { // a move
		return reply{}
	}
	s.put(c.Other)
	return s.take(c.Key)
}

// goesOn lets a call have its effect, and tells whether it may have been its turn: what one that has not answered would
// answer is not looked at.
func (s set) goesOn(c api.Call) bool {
	r := s.do(c)
	return !answered(c) || r == reply{c.Yes, c.Result}
}
