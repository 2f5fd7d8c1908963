package progress

import (
	"cmp"
	"maps"
	"slices"

	"braid/api"
)

// conflicts is what is known of the conflicts in the rows that were gone through.
type conflicts struct {
	open map[int]api.Clash // those under way, by thread: it has one attempt at a time, and that one conflict at most
	over []api.Clash
	just map[int]int // by thread: the place among those over of the one whose flag may go down in the thread's next row
}

// follow goes on by a row. One that is no attempt's (a begin, a return) does nothing but stand between two rows of its
// thread, so that a flag that goes down behind it belongs to no conflict ahead.
func (c *conflicts) follow(r api.Row) {
	ended, just := c.just[r.Thread]
	delete(c.just, r.Thread)
	switch r.Kind {
	case api.RowMine, api.RowLook, api.RowUp, api.RowWait, api.RowKill:
		if r.Enemy >= 0 {
			c.meet(r)
		}
	case api.RowStatus:
		if clash, met := c.open[r.Thread]; met && (r.Enemy != clash.Enemy || r.Seen != api.Active) {
			c.just[r.Thread] = c.end(clash, api.OverGone)
		}
	case api.RowDown:
		if just {
			c.over[ended].To = r.Step
		}
	}
	if clash, met := c.open[r.Thread]; met && r.End != api.EndNone {
		c.end(clash, api.OverEnded)
	}
}

// meet goes on by a row of a conflict, its first one or a later one.
func (c *conflicts) meet(r api.Row) {
	clash, met := c.open[r.Thread]
	if met && clash.Enemy != r.Enemy {
		c.end(clash, api.OverGone)
		met = false
	}
	if !met {
		clash = api.Clash{Thread: r.Thread, Attempt: r.Attempt, Enemy: r.Enemy, Object: r.Object, Phase: r.Phase, From: r.Step}
	}
	clash.To = r.Step
	switch r.Kind {
	case api.RowLook:
		clash.Rounds++
		clash.Timeout = clash.Timeout || r.Timeout
	case api.RowWait:
		clash.Waited++
	case api.RowKill:
		c.just[r.Thread] = c.end(clash, api.OverKill)
		return
	}
	c.open[r.Thread] = clash
}

// end tells the place of a conflict among those that are over.
func (c *conflicts) end(clash api.Clash, how int) int {
	delete(c.open, clash.Thread)
	clash.Over = how
	c.over = append(c.over, clash)
	return len(c.over) - 1
}

// tell gives all conflicts by their first rows. What is still under way is OverRun, the zero of how one ends.
func (c *conflicts) tell() []api.Clash {
	list := slices.AppendSeq(c.over, maps.Values(c.open))
	slices.SortFunc(list, func(a, b api.Clash) int { return cmp.Compare(a.From, b.From) })
	return list
}
