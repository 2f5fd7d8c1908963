package compile_test

import (
	"slices"
	"strings"
	"testing"

	"braid/api"
	"braid/fixture"
	"braid/history"
	"braid/judge"
	"braid/machine"
)

// sourced is a script of which the programs were compiled, with what each was compiled from; nil: a call of the set.
type sourced struct {
	machine.Script
	texts [][]prog
}

// deal gives a short program that others get into the way of.
func deal(t *testing.T, d *fixture.Dice, over int) prog {
	t.Helper()
	named := func() string { return "[" + string(rune('0'+d.Below(max(over, 1)))) + "]" }
	return fixture.Source(t, strings.NewReplacer("A", named(), "B", named(), "C", named()).Replace(fixture.Pick(d,
		"A := A + 1; return A;",
		"x := take A; y := take B; A := x - 1; B := y + 1; return x + y;",
		"if A == 0 { B := 1; } return A;",
		"if !A && !B { A := B + 1; } else { B := A; } return A - B;",
		"return A + B * C;",
		"x := A; release A; B := x; return x;",
		"x := A; y := B; release A; C := A + y; release B; return x;",
		"i := 3; while i { s := s + A; release A; i := i - 1; } B := s; return s;",
		"A := 9; if B < 2 { return B; } abort;",
		"A := 3; C := A + B; [-1] := 0;",
		"while A > B { A := A - 1; B := B + 1; } return A < B || C;",
	)))
}

// scripted gives a script of compiled programs, tidied or not, with a few calls of the set beside them.
func scripted(t *testing.T, d *fixture.Dice, n int) sourced {
	t.Helper()
	s := sourced{Script: fixture.Thrown(d, n)}
	for p, jobs := range s.Threads {
		s.texts = append(s.texts, make([]prog, len(jobs)))
		for k, j := range jobs {
			if j.Kind != api.JobProgram {
				continue
			}
			from := deal(t, d, len(s.Objects))
			if d.Below(3) == 0 {
				from, _ = thrown(t, d, len(s.Objects), 8, 20)
			}
			code := compiles(t, from)
			if d.Below(2) == 0 {
				code = tidied(t, code)
			}
			s.texts[p][k], s.Threads[p][k].Program = from, code
		}
	}
	return s
}

// givens are the reads of an attempt, as they were told, those that were let go with Use. It looks that each other one told
// what the object held then.
func givens(t *testing.T, x api.Tx, now []int64) given {
	t.Helper()
	var g given
	for _, saw := range x.Saws {
		switch {
		case saw.Entry == len(g):
			g = append(g, api.Given{Use: saw.Released, Value: saw.Value.Num})
			if !saw.Released && saw.Value.Num != now[saw.Object] {
				t.Fatalf("%+v was told %+v over %v", x, saw, now)
			}
		case saw.Entry < 0 && !saw.Own && saw.Value.Num != now[saw.Object]:
			t.Fatalf("%+v was told %+v over %v", x, saw, now)
		}
	}
	return g
}

// 25.9: each committed one, in the order of the witnesses, told and left what the text means on what the ones ahead of it left.
// It tells how many were looked at.
func (s sourced) serial(t *testing.T, r machine.Result) (looked, given int) {
	t.Helper()
	txs, e := history.Txs(r.Rows)
	order, f := judge.Order(txs)
	if e != api.OK || f != api.OK {
		t.Fatalf("Txs, Order = %d, %d", e, f)
	}
	now := slices.Clone(s.Objects)
	for _, place := range order {
		x := txs[place]
		from := s.texts[x.Thread][x.Job]
		if s.Threads[x.Thread][x.Job].Kind != api.JobProgram {
			continue // it touches other objects
		}
		g := givens(t, x, now)
		a := means(t, from, now, g, api.MaxFuel)
		if a.Outcome == api.EndNone {
			return looked, given
		}
		behind := slices.Clone(now)
		for _, w := range x.Writes {
			behind[w.Object] = w.Value.Num
		}
		if a.Outcome != api.EndCommit || !slices.Equal(a.Objects, behind) {
			t.Fatalf("%q over %v, %v left %v, and means %+v", said(from), now, g, behind, a)
		}
		want := api.Answer{Outcome: api.EndCommit, Result: a.Result, Tries: x.Try}
		if got := r.Answers[x.Thread][x.Job]; got != (api.Answer{}) && got != want {
			t.Fatalf("%q over %v, %v answered %+v, and means %+v", said(from), now, g, got, a)
		}
		now = behind
		looked++
		if slices.ContainsFunc(g, func(one api.Given) bool { return one.Use }) {
			given++
		}
	}
	for i, n := range now {
		if r.Finals[i].Num != n {
			t.Fatalf("the finals are %+v, want %v", r.Finals, now)
		}
	}
	return looked, given
}

// 25.9, and with it W7, under every manager.
func TestUnderEverySchedule(t *testing.T) {
	t.Parallel()
	d := fixture.NewDice()
	var looked, given, failed [api.Managers]int
	for n := range 2500 {
		s := scripted(t, &d, n)
		r, e := machine.Run(s.Script)
		if e != api.OK {
			t.Fatalf("Run = %d", e)
		}
		a, b := s.serial(t, r)
		looked[s.Manager] += a
		given[s.Manager] += b
		for _, row := range r.Rows {
			if row.End == api.EndStale || row.End == api.EndKilled {
				failed[s.Manager]++
			}
		}
	}
	for manager := range api.Managers {
		if looked[manager] < 500 || given[manager] < 50 || failed[manager] < 50 {
			t.Errorf("manager %d: %d committed, %d of them with given reads, %d attempts failed", manager, looked[manager], given[manager], failed[manager])
		}
	}
}

// Two threads with one program under many schedules of three switches: each run is as if one had come behind the other.
func TestSwitches(t *testing.T) {
	t.Parallel()
	from := fixture.Source(t, "[0] := [0] + 1; if [0] < 2 { [1] := [1] + 5; } return [0];")
	for _, code := range []program{compiles(t, from), tidied(t, compiles(t, from))} {
		for manager := range api.Managers {
			for a := 0; a < 24; a += 2 {
				for b := 1; b < 24; b += 2 {
					for c := 0; c < 24; c += 3 {
						picks := slices.Concat(slices.Repeat([]int64{0}, a), slices.Repeat([]int64{1}, b), slices.Repeat([]int64{0}, c), slices.Repeat([]int64{1}, 120), slices.Repeat([]int64{0}, 120))
						s := sourced{machine.Script{Objects: []int64{0, 0}, Threads: [][]machine.Job{{{Program: code}}, {{Program: code}}}, Manager: manager, Patience: 2, Picks: picks}, [][]prog{{from}, {from}}}
						r, e := machine.Run(s.Script)
						if e != api.OK {
							t.Fatalf("Run = %d", e)
						}
						if n, _ := s.serial(t, r); n < 2 && manager != api.Oracle {
							t.Fatalf("manager %d, %d, %d, %d: %d committed", manager, a, b, c, n)
						}
					}
				}
			}
		}
	}
}
