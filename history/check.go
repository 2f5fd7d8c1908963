package history

import "braid/api"

// none stands where there is no thread, job, attempt, entry, place, step or stamp.
const none = -1

// The states of a thread.
const (
	idle = iota
	live // an attempt is under way
	failed
	done
)

// who is whose a row is, within its thread.
type who struct{ job, try, attempt int }

func whoOf(r api.Row) who { return who{r.Job, r.Try, r.Attempt} }

// thread is what is kept of a thread.
type thread struct {
	state int
	last  who // whose its last row is
	count int // the ordinals that its live attempt was told
}

// keeper is what is kept of the rows that were gone through.
type keeper struct {
	threads  [api.MaxThreads]thread
	begun    int // rows RowBegin
	attempts int // rows RowBegin and RowAgain
}

func newKeeper() *keeper {
	k := &keeper{}
	for p := range k.threads {
		k.threads[p].last.job = none // so that a thread's first job is one more
	}
	return k
}

// Check tells the first row that may not stand so, -1: all may (15.1).
func Check(rows []api.Row) (int, api.Errno) {
	k := newKeeper()
	for place, r := range rows {
		if r.Step != place || !k.fits(r) {
			return place, api.ErrRows
		}
		k.follow(r)
	}
	return none, api.OK
}

// fits tells whether a row may come next.
func (k *keeper) fits(r api.Row) bool {
	if r.Kind == api.RowStutter {
		return r.Thread == none && r.Try == 0 && r.Job == none && r.Attempt == none && silent(r)
	}
	if r.Thread < 0 || r.Thread >= api.MaxThreads {
		return false
	}
	t := k.threads[r.Thread]
	switch r.Kind {
	case api.RowBegin:
		next := who{t.last.job + 1, 1, k.attempts + 1}
		return t.state == idle && whoOf(r) == next && r.Seen == int64(k.begun) && silent(r)
	case api.RowAgain:
		next := who{t.last.job, t.last.try + 1, k.attempts + 1}
		return t.state == failed && whoOf(r) == next && silent(r)
	case api.RowReturn:
		return t.state == done && whoOf(r) == t.last && silent(r)
	}
	return ofAttempt(r.Kind) && t.state == live && whoOf(r) == t.last && endFits(r) && t.readFits(r)
}

// ofAttempt tells whether the rows of a kind are rows of an attempt.
func ofAttempt(kind int) bool { return kind > api.RowAgain && kind < api.RowReturn }

// silent tells whether a row has nothing that rows of an attempt alone may have.
func silent(r api.Row) bool { return r.End == api.EndNone && !r.Told && !r.Puts }

// endFits tells whether the end of an attempt's row is one that its kind may have.
func endFits(r api.Row) bool {
	committed := r.Kind == api.RowCommit && r.Done
	switch r.End {
	case api.EndCommit:
		return committed
	case api.EndUser, api.EndBad:
		return r.Kind == api.RowQuit
	case api.EndNone, api.EndStale, api.EndKilled:
		return !committed
	}
	return false
}

// readFits tells whether an attempt's row tells, puts and releases what it may.
func (t thread) readFits(r api.Row) bool {
	if (r.Told || r.Puts) && r.Object < 0 {
		return false
	}
	if r.Kind == api.RowRelease {
		return !r.Told && r.Entry >= none && r.Entry < t.count
	}
	if !r.Told {
		return true
	}
	switch r.Phase {
	case api.PhaseRead:
		return r.Entry >= none && r.Entry <= t.count
	case api.PhaseWrite:
		return r.Entry >= none && r.Entry < t.count
	}
	return false
}

// follow keeps what a row that may stand makes of its thread.
func (k *keeper) follow(r api.Row) {
	if r.Kind == api.RowStutter {
		return
	}
	t := &k.threads[r.Thread]
	t.last = whoOf(r)
	switch r.Kind {
	case api.RowBegin:
		k.begun++
		fallthrough
	case api.RowAgain:
		k.attempts++
		t.state, t.count = live, 0
	case api.RowReturn:
		t.state = idle
	}
	if r.Told && r.Entry == t.count {
		t.count++
	}
	if decides(r.End) {
		t.state = done
	} else if r.End != api.EndNone {
		t.state = failed
	}
}

// decides tells whether an end is an outcome.
func decides(end int) bool {
	return end == api.EndCommit || end == api.EndUser || end == api.EndBad
}
