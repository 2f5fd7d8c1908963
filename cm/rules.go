package cm

import (
	"braid/api"
	"braid/word"
)

// rule is what each of the five kinds does in its own way. Its conflicts have no Tries and no Waited below 0. A rule keeps nothing from call to call (6.7).
type rule interface {
	kind() int
	patience() int
	judge(c api.Conflict) api.Verdict
}

// limit is the patience of a kind that heeds it.
type limit struct {
	steps int
}

type (
	polite struct{ limit }
	karma  struct{ limit }
	polka  struct{ limit }
	greedy struct{ limit }
	oracle struct{ told int } // no limit: it tells its patience, and heeds none
)

// ruleOf takes a kind that is one.
func ruleOf(kind int, patience int) rule {
	heeded := limit{steps: patience}
	switch kind {
	case api.Polite:
		return polite{heeded}
	case api.Karma:
		return karma{heeded}
	case api.Polka:
		return polka{heeded}
	case api.Greedy:
		return greedy{heeded}
	}
	return oracle{told: patience}
}

func (polite) kind() int { return api.Polite }
func (karma) kind() int  { return api.Karma }
func (polka) kind() int  { return api.Polka }
func (greedy) kind() int { return api.Greedy }
func (oracle) kind() int { return api.Oracle }

func (l limit) patience() int  { return l.steps }
func (o oracle) patience() int { return o.told }

// cut cuts a wait to what is left of the patience (6.5).
func (l limit) cut(steps int, waited int) api.Verdict {
	left := l.steps - waited
	if left < 1 {
		return api.Verdict{Abort: true, Timeout: true}
	}
	return wait(min(steps, left))
}

func (p polite) judge(c api.Conflict) api.Verdict {
	if c.Tries >= api.PoliteTries {
		return abort()
	}
	return p.cut(backOff(c.Tries, c.Draw), c.Waited)
}

func (k karma) judge(c api.Conflict) api.Verdict {
	if outranks(c) {
		return abort()
	}
	return k.cut(api.KarmaWait, c.Waited)
}

func (p polka) judge(c api.Conflict) api.Verdict {
	if outranks(c) {
		return abort()
	}
	return p.cut(backOff(min(c.Tries, api.PolkaTop), c.Draw), c.Waited)
}

func (g greedy) judge(c api.Conflict) api.Verdict {
	if c.Born < c.Enemy || c.Flag {
		return abort()
	}
	return g.cut(api.GreedyWait, c.Waited)
}

// oracleBits are the bits of the draw that tell Oracle's verdict, but for the sign, which adds the upper half of its waits.
const oracleBits = 4

func (oracle) judge(c api.Conflict) api.Verdict {
	k := low(oracleBits, c.Draw)
	if k%2 == 0 {
		return abort()
	}
	steps := (k + 1) / 2
	if c.Draw < 0 {
		steps += api.OracleTop / 2
	}
	return wait(steps)
}

// outranks tells whether the asker's priority, with its tries, is the greater one.
func outranks(c api.Conflict) bool {
	return word.SatAdd(c.Mine, int64(c.Tries)) > c.Theirs
}

// backOff tells a wait that may grow with n.
func backOff(n int, draw int64) int { return 1 + low(n, draw) }

// low tells the lowest n bits of a draw as a number.
func low(n int, draw int64) int { return int(draw & (1<<n - 1)) }

func abort() api.Verdict { return api.Verdict{Abort: true} }

func wait(steps int) api.Verdict { return api.Verdict{Wait: steps} }
