package intset

import "braid/api"

// start is where each attempt of a call begins (P13.4).
func (j *Job) start() {
	j.yes, j.result = false, 0
	switch j.call {
	case api.JobInsert:
		j.walkTo(j.key, j.insert)
	case api.JobRemove:
		j.walkTo(j.key, j.remove)
	case api.JobContains:
		j.walkTo(j.key, j.contains)
	case api.JobLeast:
		j.walkTo(0, j.least)
	case api.JobSize:
		j.walkTo(0, j.size)
	case api.JobMove:
		j.walkTo(j.other, j.move)
	}
}

func (j *Job) contains() (api.Row, api.Errno) { return j.finish(j.found()) }

func (j *Job) insert() (api.Row, api.Errno) {
	if j.found() {
		return j.finish(false)
	}
	return j.link()
}

func (j *Job) remove() (api.Row, api.Errno) {
	if !j.found() {
		return j.finish(false)
	}
	return j.unlink()
}

func (j *Job) least() (api.Row, api.Errno) {
	if j.curr == end() {
		return j.finish(false)
	}
	j.result = j.curr.Num
	return j.unlink()
}

func (j *Job) size() (api.Row, api.Errno) {
	j.result = j.nodes
	return j.finish(true)
}

// move goes on, where the other key is free, as a remove of the one, and behind that as an insert of the other.
func (j *Job) move() (api.Row, api.Errno) {
	if j.found() {
		return j.finish(false)
	}
	j.walkTo(j.key, j.remove)
	return j.next()
}

// link puts the call's node between the two at which the walk has ended.
func (j *Job) link() (api.Row, api.Errno) {
	return j.write(j.node, api.Value{Num: j.sought, Next: j.curr.object}, j.linkPrev)
}

func (j *Job) linkPrev() (api.Row, api.Errno) {
	return j.write(j.prev.object, api.Value{Num: j.prev.Num, Next: j.node, Dead: j.prev.Dead}, j.agree)
}

// unlink takes the node out at which the walk has ended. The node is written too, so that whoever holds it is stale.
func (j *Job) unlink() (api.Row, api.Errno) {
	return j.write(j.curr.object, api.Value{Num: j.curr.Num, Next: j.curr.Next, Dead: true}, j.unlinkPrev)
}

func (j *Job) unlinkPrev() (api.Row, api.Errno) {
	return j.write(j.prev.object, api.Value{Num: j.prev.Num, Next: j.curr.Next, Dead: j.prev.Dead}, j.unlinked)
}

func (j *Job) unlinked() (api.Row, api.Errno) {
	if j.call != api.JobMove {
		return j.agree()
	}
	j.walkTo(j.other, j.insert)
	return j.next()
}

// write opens an object for writing; with the row that tells, the value is put.
func (j *Job) write(object int, v api.Value, then action) (api.Row, api.Errno) {
	j.told = func(row *api.Row) {
		row.Puts, row.Put = true, v
		j.transaction.Put(object, v)
		j.next = then
	}
	return j.ask(j.transaction.Write(object))
}

func (j *Job) agree() (api.Row, api.Errno) { return j.finish(true) }

func (j *Job) finish(yes bool) (api.Row, api.Errno) {
	j.yes = yes
	return j.ask(j.transaction.Finish())
}
