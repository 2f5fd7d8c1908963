package txn

import "braid/api"

// conflict is what lies between meeting an enemy and the moment at which it is no longer met there (8.12).
type conflict struct {
	enemy  int // none: there is no conflict
	tries  int
	waited int
	left   int    // the steps of this wait that are still to come
	goOn   func() // what comes behind RowDown
}

// meets begins a conflict, if the last look said that an enemy is in the way.
func (a *Attempt) meets() bool {
	if a.status != api.Active {
		return false
	}
	a.conflict = conflict{enemy: a.holder}
	a.next = a.stand
	return true
}

// seen is where each look ends: in a conflict it says first whether the same enemy is still met.
func (a *Attempt) seen() {
	switch {
	case a.enemy == none:
		a.found()
	case a.status == api.Active && a.holder == a.enemy:
		a.next = a.stand
	default:
		a.part(a.found)
	}
}

// part ends a conflict: a flag that is up comes down ahead of all else.
func (a *Attempt) part(goOn func()) {
	if a.flag {
		a.goOn = goOn
		a.next = a.down
		return
	}
	a.enemy = none
	goOn()
}

// against says in a row with whom one is at odds, and over what.
func (a *Attempt) against(row *api.Row) {
	a.at(row)
	row.Enemy = a.enemy
}

// stand begins a round.
func (a *Attempt) stand(row *api.Row) {
	a.against(row)
	a.mustLive(row)
	a.next = a.judge
}

func (a *Attempt) judge(row *api.Row) {
	row.Kind = api.RowLook
	a.against(row)
	enemy := must(a.scene.World.Owner(a.enemy))
	c := api.Conflict{Mine: a.rank, Born: a.owner.Stamp, Enemy: enemy.Stamp, Tries: a.tries, Waited: a.waited}
	a.regard(row, enemy, &c)
	// a draw is not taken where the memory has refused the look
	c.Draw = a.scene.Draws.Next()
	v := a.scene.Manager.Judge(c)
	row.Abort, row.Timeout, row.Wait = v.Abort, v.Timeout, v.Wait
	a.tries++
	a.obey(v)
}

// regard sees of the enemy what the manager wants to see.
func (a *Attempt) regard(row *api.Row, enemy api.Owner, c *api.Conflict) {
	switch a.scene.Manager.Look() {
	case api.LookPriority:
		if !isCell(a.scene.Memory, enemy.Priority) {
			return
		}
		c.Theirs = must(a.scene.Memory.Load(enemy.Priority))
	case api.LookFlag:
		c.Flag = must(a.scene.World.Flag(a.enemy))
	default:
		return
	}
	a.took(row)
}

func (a *Attempt) obey(v api.Verdict) {
	a.left = v.Wait
	switch {
	case v.Abort:
		a.next = a.kill
	case a.scene.Manager.Flags() && !a.flag:
		a.next = a.up
	default:
		a.next = a.wait
	}
}

func (a *Attempt) kill(row *api.Row) {
	row.Kind = api.RowKill
	a.against(row)
	must(a.scene.World.Kill(a.enemy))
	a.took(row)
	a.part(a.lookAgain)
}

func (a *Attempt) lookAgain() { a.next = a.point }

func (a *Attempt) up(row *api.Row) {
	row.Kind = api.RowUp
	a.against(row)
	must(a.scene.World.Mark(a.number, true))
	a.took(row)
	a.flag = true
	a.next = a.wait
}

func (a *Attempt) wait(row *api.Row) {
	row.Kind = api.RowWait
	a.against(row)
	a.left--
	a.waited++
	row.Wait = a.left
	if a.left == 0 {
		a.lookAgain()
	}
}

func (a *Attempt) down(row *api.Row) {
	row.Kind = api.RowDown
	a.against(row)
	must(a.scene.World.Mark(a.number, false))
	a.took(row)
	a.flag = false
	a.part(a.goOn)
}
