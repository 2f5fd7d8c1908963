package intset_test

import (
	"slices"

	"braid/api"
	"braid/retry"
)

// plain is a call as the chapter tells it. Of a run nothing is kept but its rows: what the present attempt does next is
// found by doing the whole call from above, straight on, with what the rows of this attempt alone tell, up to the first
// action that is not through.
type plain struct {
	x          *retry.Transaction
	ask        ask
	head, node int
	objects    int
	rows       []api.Row
}

// deed is an action. A finish has what is to be answered with it.
type deed struct {
	what   string
	object int
	put    api.Value
	yes    bool
	result int64
}

// tape is the rows with which the actions of an attempt were through.
type tape []api.Row

// do does an action, if it is through; else nothing comes behind it.
func (t *tape) do(d deed) api.Value {
	if len(*t) == 0 {
		panic(d)
	}
	r := (*t)[0]
	*t = (*t)[1:]
	return r.Value
}

func (t *tape) read(x int) api.Value       { return t.do(deed{what: "read", object: x}) }
func (t *tape) write(x int, v api.Value)   { t.do(deed{what: "write", object: x, put: v}) }
func (t *tape) letGo(x int)                { t.do(deed{what: "let go", object: x}) }
func (t *tape) finish(yes bool, res int64) { t.do(deed{what: "finish", yes: yes, result: res}) }
func (t *tape) quit()                      { t.do(deed{what: "quit"}) }

func (p *plain) there(x int) bool { return x >= 0 && x < p.objects }

// tape is that of the attempt that stands or stood last.
func (p *plain) tape() tape {
	var t tape
	for _, r := range slices.Backward(p.rows) {
		if r.Kind == api.RowBegin || r.Kind == api.RowAgain {
			break
		}
		if r.Told || r.Kind == api.RowRelease {
			t = append(t, r)
		}
	}
	slices.Reverse(t)
	return t
}

// next tells the action that is under way or comes next.
func (p *plain) next() (d deed) {
	defer func() { d = recover().(deed) }()
	t := p.tape()
	switch p.ask.call {
	case api.JobContains:
		t.finish(p.walk(&t, p.ask.key, true).found, 0)
	case api.JobInsert:
		p.insert(&t, p.ask.key, p.walk(&t, p.ask.key, true))
	case api.JobRemove:
		w := p.walk(&t, p.ask.key, true)
		p.remove(&t, w)
		t.finish(w.found, 0)
	case api.JobLeast:
		p.least(&t)
	case api.JobSize:
		n, v := int64(0), p.readHead(&t)
		for ; p.there(v.Next); n++ {
			v = t.read(v.Next)
		}
		t.finish(true, n)
	case api.JobMove:
		if p.walk(&t, p.ask.other, false).found {
			t.finish(false, 0)
		}
		w := p.walk(&t, p.ask.key, false)
		if !w.found {
			t.finish(false, 0)
		}
		p.remove(&t, w)
		p.insert(&t, p.ask.other, p.walk(&t, p.ask.other, false))
	}
	return
}

// where is where a walk has ended.
type where struct {
	prev, curr int
	pv, cv     api.Value
	found      bool
}

func (p *plain) readHead(t *tape) api.Value {
	if !p.there(p.head) {
		t.quit()
	}
	return t.read(p.head)
}

func (p *plain) walk(t *tape, k int64, letsGo bool) where {
	w := where{prev: p.head, pv: p.readHead(t)}
	for w.curr = w.pv.Next; p.there(w.curr); w.curr = w.pv.Next {
		w.cv = t.read(w.curr)
		if w.cv.Num >= k {
			w.found = w.cv.Num == k
			return w
		}
		if letsGo {
			t.letGo(w.prev)
		}
		w.prev, w.pv = w.curr, w.cv
	}
	w.curr = -1
	return w
}

func (p *plain) insert(t *tape, k int64, w where) {
	if w.found {
		t.finish(false, 0)
	}
	if !p.there(p.node) {
		t.quit()
	}
	t.write(p.node, api.Value{Num: k, Next: w.curr})
	w.pv.Next = p.node
	t.write(w.prev, w.pv)
	t.finish(true, 0)
}

func (p *plain) remove(t *tape, w where) {
	if w.found {
		w.pv.Next = w.cv.Next
		w.cv.Dead = true
		t.write(w.curr, w.cv)
		t.write(w.prev, w.pv)
	}
}

func (p *plain) least(t *tape) {
	w := where{prev: p.head, pv: p.readHead(t), found: true}
	if w.curr = w.pv.Next; !p.there(w.curr) {
		t.finish(false, 0)
	}
	w.cv = t.read(w.curr)
	p.remove(t, w)
	t.finish(true, w.cv.Num)
}

func (p *plain) Over() bool { return len(p.rows) > 0 && p.rows[len(p.rows)-1].Kind == api.RowReturn }

func (p *plain) Answer() api.Answer {
	var a api.Answer
	if !p.Over() {
		return a
	}
	for _, r := range p.rows {
		if r.Kind == api.RowBegin || r.Kind == api.RowAgain {
			a.Tries++
		}
		if r.End != api.EndNone {
			a.Outcome = r.End
		}
	}
	if d := p.next(); a.Outcome == api.EndCommit {
		a.Yes, a.Result = d.yes, d.result
	}
	return a
}

func (p *plain) Step() (api.Row, api.Errno) {
	if p.Over() {
		return api.Row{}, api.ErrEnded
	}
	row, e := p.does()
	if e == api.OK {
		p.rows = append(p.rows, row)
	}
	return row, e
}

func (p *plain) does() (api.Row, api.Errno) {
	row := api.Row{Thread: p.x.Thread(), Job: p.x.Job(), Try: p.x.Tries(), Attempt: p.x.Number(), Object: -1, Entry: -1, Enemy: -1, Cell: -1}
	d := p.next()
	switch p.x.State() {
	case api.StateOver:
		row.Kind = api.RowReturn
		return row, api.OK
	case api.StateOpen:
		switch d.what {
		case "let go":
			row.Kind, row.Object = api.RowRelease, d.object
			row.Entry, _ = p.x.Release(d.object)
			return row, api.OK
		case "read":
			p.x.Read(d.object)
		case "write":
			p.x.Write(d.object)
		case "finish":
			p.x.Finish()
		case "quit":
			p.x.Quit(api.EndBad)
		}
	}
	row, e := p.x.Step()
	if row.Told && d.what == "write" {
		row.Puts, row.Put = true, d.put
		p.x.Put(d.object, d.put)
	}
	return row, e
}
