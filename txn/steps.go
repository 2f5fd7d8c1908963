package txn

import (
	"braid/api"
	"braid/table"
)

// look is two steps at one object (8.7), and what they said.
type look struct {
	aim     table.Entry // an entry; or the object that is opened, with no ordinal
	place   int         // where the entry stands in the table
	loc     int
	holder  int // the owner of loc
	status  int
	current int
	found   func() // what the look was for: it says what comes next
}

// lookAtOpened looks at the object that is opened.
func (a *Attempt) lookAtOpened(found func()) {
	a.look = look{aim: table.Entry{Object: a.object, Ordinal: none}, found: found}
	a.next = a.point
}

// lookAtEntry looks at the entry at a place; behind the last one comes another step.
func (a *Attempt) lookAtEntry(place int, found func(), behind func(row *api.Row)) {
	entry, e := a.reads.At(place)
	if e != api.OK {
		a.next = behind
		return
	}
	a.look = look{aim: entry, place: place, found: found}
	a.next = a.point
}

// at says in a row where one looks.
func (a *Attempt) at(row *api.Row) {
	row.Object, row.Entry = a.aim.Object, a.aim.Ordinal
}

func (a *Attempt) point(row *api.Row) {
	row.Kind = api.RowPoint
	a.at(row)
	a.loc = must(a.scene.World.Load(a.aim.Object))
	a.took(row)
	a.next = a.see
}

func (a *Attempt) see(row *api.Row) {
	row.Kind = api.RowStatus
	a.at(row)
	holder := must(a.scene.World.Locator(a.loc)).Owner
	row.Enemy = holder
	status := must(a.scene.World.Status(holder))
	a.took(row)
	a.holder, a.status = holder, status
	a.current = must(a.scene.World.Current(a.loc, status))
	a.seen()
}

// mustHold fails, if the last look said that its entry is no longer current.
func (a *Attempt) mustHold(entry table.Entry) {
	if entry.Version != a.current {
		panic(failure(api.EndStale))
	}
}

// mustLive looks at the own status, and fails, if an enemy has turned it.
func (a *Attempt) mustLive(row *api.Row) {
	row.Kind = api.RowMine
	status := must(a.scene.World.Status(a.number))
	a.took(row)
	if status != api.Active {
		panic(failure(api.EndKilled))
	}
}

// local opens what the attempt has already.
func (a *Attempt) local(row *api.Row) {
	row.Kind = api.RowLocal
	row.Object = a.object
	if a.Owns(a.object) {
		own := must(a.scene.World.Locator(a.owned[a.object]))
		a.tell(row, own.New, none)
		return
	}
	entry, _ := a.reads.Find(a.object)
	a.tell(row, entry.Version, entry.Ordinal)
}

// tell ends an open.
func (a *Attempt) tell(row *api.Row, version int, entry int) {
	row.Entry = entry
	row.Told = true
	row.Value = must(a.scene.World.Version(version))
	a.through()
}

func (a *Attempt) foundToRead() {
	if a.meets() {
		return
	}
	a.base = a.current
	a.checkFrom(0)
}

func (a *Attempt) foundToWrite() {
	if a.meets() {
		return
	}
	if entry, e := a.reads.Find(a.object); e == api.OK {
		a.mustHold(entry)
	}
	a.base = a.current
	a.next = a.acquire
}

func (a *Attempt) acquire(row *api.Row) {
	row.Kind = api.RowAcquire
	row.Object = a.object
	if a.made == 0 {
		a.made = must(a.scene.World.Make(a.number, a.base))
	}
	won := must(a.scene.World.Acquire(a.object, a.loc, a.made))
	a.took(row)
	if won {
		a.take()
		return
	}
	a.made = 0
	a.lookAtOpened(a.foundToWrite)
}

// take makes an object that was acquired the attempt's own.
func (a *Attempt) take() {
	a.owned[a.object] = a.made
	if gone, e := a.reads.Upgrade(a.object); e == api.OK {
		a.entry = gone.Ordinal
	}
	a.checkFrom(0)
}

// checkFrom validates the entries from a place on (8.10).
func (a *Attempt) checkFrom(place int) { a.lookAtEntry(place, a.foundToCheck, a.mine) }

func (a *Attempt) foundToCheck() {
	a.mustHold(a.aim)
	a.checkFrom(a.place + 1)
}

// mine is the last look of an open at the own status.
func (a *Attempt) mine(row *api.Row) {
	row.Object = a.object
	a.mustLive(row)
	if a.scene.Manager.Keeps() && a.rank < api.MaxRank {
		a.next = a.boost
		return
	}
	a.opened(row)
}

func (a *Attempt) boost(row *api.Row) {
	row.Kind = api.RowBoost
	row.Object = a.object
	must(a.scene.Memory.Add(a.owner.Priority, 1))
	a.took(row)
	a.rank++
	a.opened(row)
}

// opened ends an open that looked at its object: a read has its entry from now on.
func (a *Attempt) opened(row *api.Row) {
	if a.phase == api.PhaseRead {
		a.entry, _ = a.reads.Add(a.object, a.base)
	}
	a.tell(row, a.base, a.entry)
}

// finishFrom looks for the last time at the entries from a place on (8.11).
func (a *Attempt) finishFrom(place int) { a.lookAtEntry(place, a.foundToFinish, a.commit) }

func (a *Attempt) foundToFinish() {
	if a.meets() {
		return
	}
	a.mustHold(a.aim)
	a.finishFrom(a.place + 1)
}

func (a *Attempt) commit(row *api.Row) {
	row.Kind = api.RowCommit
	won := must(a.scene.World.Commit(a.number))
	a.took(row)
	a.endAs(row, won, api.EndCommit)
}

// quit turns the own status: a stale attempt is stale, whoever comes first.
func (a *Attempt) quit(row *api.Row) {
	row.Kind = api.RowQuit
	won := must(a.scene.World.Kill(a.number))
	a.took(row)
	a.endAs(row, won || a.why == api.EndStale, a.why)
}

// endAs ends the attempt as it is wanted, or as the enemy wants it that came first.
func (a *Attempt) endAs(row *api.Row, wanted bool, end int) {
	if !wanted {
		end = api.EndKilled
	}
	a.end(row, end)
}
