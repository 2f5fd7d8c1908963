package script_test

import (
	"math"
	"slices"
	"strconv"
	"testing"

	"braid/api"
	"braid/fixture"
	"braid/lang"
	"braid/machine"
	"braid/script"
)

// printed is the text of a script that may be.
func printed(t *testing.T, s machine.Script) string {
	t.Helper()
	text, e := script.Print(s)
	if e != api.OK {
		t.Fatalf("Print(%+v): %d", s, e)
	}
	return text
}

// P19.4: nothing of anything, and something of each.
func TestPrint(t *testing.T) {
	prints(t, machine.Script{Patience: 1, Threads: [][]machine.Job{nil}}, "objects\nmanager polite 1\ndraws\nthread\npicks\n")
	prints(t, machine.Script{Patience: 1, Objects: []int64{}, Draws: []int64{}, Picks: []int64{}, Threads: [][]machine.Job{{}, nil, {}}},
		"objects\nmanager polite 1\ndraws\nthread\nthread\nthread\npicks\n")
	prints(t, whole(), "objects 5 -7\nmanager karma 3\ndraws 1 -2\nthread\nmove 4 -4\nthread\npicks 1*3 0\n")
	prints(t, machine.Script{
		Objects: []int64{math.MinInt64, 0, math.MaxInt64}, Draws: []int64{math.MaxInt64, math.MinInt64, 0}, Manager: api.Oracle, Patience: api.MaxPatience,
		Threads: [][]machine.Job{nil, {{Program: fixture.Program(t, adds)}, {Kind: api.JobLeast}}, {{}}}, Picks: []int64{math.MinInt64, math.MaxInt64},
	}, "objects -9223372036854775808 0 9223372036854775807\nmanager oracle 4096\ndraws 9223372036854775807 -9223372036854775808 0\n"+
		"thread\nthread\nprogram\n"+adds+"end\nleast\nthread\nprogram\nend\npicks -9223372036854775808 9223372036854775807\n")
}

func TestPrintOfManagers(t *testing.T) {
	for kind, name := range []string{"polite", "karma", "polka", "greedy", "oracle"} {
		for _, patience := range []int{1, 17, api.MaxPatience} {
			s := plainHead(nil)
			s.Manager, s.Patience = kind, patience
			prints(t, s, "objects 1\nmanager "+name+" "+strconv.Itoa(patience)+"\ndraws\nthread\npicks\n")
		}
	}
}

func TestPrintOfJobs(t *testing.T) {
	for _, c := range jobLines {
		prints(t, plainHead([]machine.Job{c.job}), head+"thread\n"+c.text+"\npicks\n")
		prints(t, plainHead(nil, slices.Repeat([]machine.Job{c.job}, api.MaxJobs)), head+"thread\nthread\n"+times(8, c.text+"\n")+"picks\n")
	}
	code := fixture.Program(t, "a: b: let r0 5 # x\nif r0 > 0 b\ngoto end\nend:")
	prints(t, plainHead([]machine.Job{{Program: code}, {Program: []lang.Instr{}}, {Kind: api.JobSize, Program: []lang.Instr{}}}),
		head+"thread\nprogram\nl0:\nlet r0 5\nif r0 > 0 l0\ngoto l1\nl1:\nend\nprogram\nend\nsize\npicks\n")
}

// P19.4: every longest stretch of one number is one word.
func TestPrintOfPicks(t *testing.T) {
	for _, c := range []struct {
		words string
		picks []int64
	}{
		{" 0", []int64{0}},
		{" 0*2", []int64{0, 0}},
		{" 0*3 1 0*2 1", []int64{0, 0, 0, 1, 0, 0, 1}},
		{" -1*2 99 7*2 -1", []int64{-1, -1, 99, 7, 7, -1}},
		{" -9223372036854775808*2 9223372036854775807*2", []int64{math.MinInt64, math.MinInt64, math.MaxInt64, math.MaxInt64}},
		{" 5*4096", slices.Repeat([]int64{5}, 4096)},
		{" 5*4095 4", append(slices.Repeat([]int64{5}, 4095), 4)},
		{times(2048, " 0 1"), slices.Repeat([]int64{0, 1}, 2048)},
	} {
		s := plainHead(nil)
		s.Picks = c.picks
		prints(t, s, head+"thread\npicks"+c.words+"\n")
	}
}

// P19.4: what machine.Check refuses has no text.
func TestPrintRefuses(t *testing.T) {
	for why, s := range fixture.Faulty(plainHead([]machine.Job{{}}, nil)) {
		if text, e := script.Print(s); text != "" || e != why {
			t.Errorf("Print = %q, %d, want %d", text, e, why)
		}
	}
	for _, j := range []machine.Job{
		{Kind: -1}, {Kind: api.JobKinds}, {Kind: math.MaxInt}, {Kind: math.MinInt}, {Kind: api.JobLeast, Key: 1}, {Kind: api.JobSize, Other: 1},
		{Kind: api.JobInsert, Other: 1}, {Kind: api.JobMove, Program: []lang.Instr{{Code: lang.Quit}}},
	} {
		if text, e := script.Print(plainHead([]machine.Job{j})); text != "" || e != api.ErrJob {
			t.Errorf("Print of %+v = %q, %d", j, text, e)
		}
	}
	if text, e := script.Print(machine.Script{}); text != "" || e != api.ErrThreads {
		t.Errorf("Print = %q, %d", text, e)
	}
}

// P19.4: a text that is longer than Parse takes is answered all the same.
func TestPrintOfLongScripts(t *testing.T) {
	s := machine.Script{Patience: 5, Threads: [][]machine.Job{nil}}
	s.Draws = slices.Repeat([]int64{math.MinInt64}, api.MaxDraws)
	s.Picks = slices.Repeat([]int64{math.MinInt64, math.MaxInt64}, api.MaxPicks/2)
	want := "objects\nmanager polite 5\ndraws" + times(1024, " -9223372036854775808") + "\nthread\npicks" +
		times(2048, " -9223372036854775808 9223372036854775807") + "\n"
	if text := printed(t, s); text != want || len(text) <= api.MaxScript {
		t.Fatalf("%d bytes: %.100q", len(text), text)
	}
	faulty(t, want, 0, api.ErrLong)
}

// A text of just as many bytes as Parse takes is read, and one with a byte more is not.
func TestPrintOfTheLongestScripts(t *testing.T) {
	s := machine.Script{Patience: 5, Threads: [][]machine.Job{nil}, Picks: slices.Repeat([]int64{math.MinInt64, math.MaxInt64}, 1590)}
	room := api.MaxScript - len(printed(t, s))
	s.Draws = slices.Repeat([]int64{1}, room/2) // two bytes each
	s.Draws[0] += int64(room % 2 * 9)           // 10 is a byte longer
	text := printed(t, s)
	if len(text) != api.MaxScript {
		t.Fatalf("%d bytes", len(text))
	}
	says(t, text, s)
	s.Draws[1] = 10
	if text = printed(t, s); len(text) != api.MaxScript+1 {
		t.Fatalf("%d bytes", len(text))
	}
	faulty(t, text, 0, api.ErrLong)
}
