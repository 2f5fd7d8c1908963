package intset

import "braid/api"

// spot is an object of the list with the value that was told of it.
type spot struct {
	object int
	api.Value
}

// end is where a walk is that has no node ahead of it. No node is like it, for none has that number.
func end() spot { return spot{none, Empty()} }

// walkTo lays a walk from the head on, which comes next, and what comes behind it (P13.3).
func (j *Job) walkTo(key int64, behind action) {
	j.sought, j.nodes, j.behind = key, 0, behind
	j.next = j.readHead
}

func (j *Job) readHead() (api.Row, api.Errno) {
	j.told = j.atHead
	return j.ask(j.transaction.Read(j.head))
}

func (j *Job) atHead(row *api.Row) {
	j.prev = spot{j.head, row.Value}
	j.next = j.readNext
}

// readNext reads the node ahead. Where there is none the walk is at its end without a step, and what comes behind it is
// begun.
func (j *Job) readNext() (api.Row, api.Errno) {
	asked := j.transaction.Read(j.prev.Next)
	if asked == api.ErrObject {
		j.curr = end()
		return j.behind()
	}
	j.told = j.atNode
	return j.ask(asked)
}

func (j *Job) atNode(row *api.Row) {
	j.curr = spot{j.prev.Next, row.Value}
	j.nodes++
	switch {
	case j.stops():
		j.next = j.behind
	case j.keeps():
		j.pass()
	default:
		j.next = j.letGo
	}
}

// stops tells whether the walk ends at the node that it has come to.
func (j *Job) stops() bool {
	switch j.call {
	case api.JobLeast:
		return true
	case api.JobSize:
		return false
	}
	return j.curr.Num >= j.sought
}

// keeps tells whether the walk lets go of nothing.
func (j *Job) keeps() bool { return j.call == api.JobSize || j.call == api.JobMove }

func (j *Job) letGo() (api.Row, api.Errno) {
	ordinal, e := j.transaction.Release(j.prev.object)
	if e != api.OK {
		return api.Row{}, e
	}
	row := j.row(api.RowRelease)
	row.Object, row.Entry = j.prev.object, ordinal
	j.pass()
	return row, api.OK
}

func (j *Job) pass() {
	j.prev = j.curr
	j.next = j.readNext
}

// found tells whether the walk has ended at its key.
func (j *Job) found() bool { return j.curr != end() && j.curr.Num == j.sought }
