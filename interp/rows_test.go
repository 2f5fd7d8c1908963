package interp_test

import (
	"fmt"
	"math"
	"strconv"
	"strings"
	"testing"

	"braid/api"
	"braid/fixture"
	"braid/lang"
	"braid/word"
)

// Every instruction that names an object, at an object that was not opened, that is held, that is own by a take or by a
// put, that was upgraded, that was released, and that was opened again: its rows, each with the place behind it.
func TestStandings(t *testing.T) {
	opens := func(phase string, entry int, rest string) []string {
		return []string{phase + " point 0;-1;-1 @3 0>0", phase + " status 0;-1;0 @1 2>2", phase + fmt.Sprintf(" mine 0;%d;-1 @6 1>1 tells 7", entry) + rest}
	}
	takes := func(entry int, rest string) []string {
		rows := opens("write", entry, rest)
		return []string{rows[0], rows[1], "write acquire 0;-1;-1 @3 0>2", rows[2]}
	}
	local := func(phase string, entry int, told int, rest string) []string {
		return []string{fmt.Sprintf("%s local 0;%d;-1 tells %d%s", phase, entry, told, rest)}
	}
	drop := func(entry int) []string { return []string{fmt.Sprintf("none release 0;%d;-1", entry)} }
	for _, c := range []struct {
		ahead                string
		get, take, put, drop []string
	}{
		{"", opens("read", 0, ""), takes(-1, ""), takes(-1, " puts 9"), drop(-1)},
		{"get r1 @0", local("read", 0, 7, ""), takes(0, ""), takes(0, " puts 9"), drop(0)},
		{"get r1 @0\nget r1 @0", local("read", 0, 7, ""), takes(0, ""), takes(0, " puts 9"), drop(0)},
		{"take r1 @0", local("read", -1, 7, ""), local("write", -1, 7, ""), local("write", -1, 7, " puts 9"), drop(-1)},
		{"put @0 5", local("read", -1, 5, ""), local("write", -1, 5, ""), local("write", -1, 5, " puts 9"), drop(-1)},
		{"put @0 5\nput @0 6", local("read", -1, 6, ""), local("write", -1, 6, ""), local("write", -1, 6, " puts 9"), drop(-1)},
		{"get r1 @0\ntake r1 @0", local("read", -1, 7, ""), local("write", -1, 7, ""), local("write", -1, 7, " puts 9"), drop(-1)},
		{"get r1 @0\nput @0 5", local("read", -1, 5, ""), local("write", -1, 5, ""), local("write", -1, 5, " puts 9"), drop(-1)},
		{"put @0 5\ndrop @0", local("read", -1, 5, ""), local("write", -1, 5, ""), local("write", -1, 5, " puts 9"), drop(-1)},
		{"get r1 @0\ndrop @0", opens("read", 1, ""), takes(-1, ""), takes(-1, " puts 9"), drop(-1)},
		{"get r1 @0\ndrop @0\nget r1 @0", local("read", 1, 7, ""), takes(1, ""), takes(1, " puts 9"), drop(1)},
		{"get r1 @0\ndrop @0\ntake r1 @0", local("read", -1, 7, ""), local("write", -1, 7, ""), local("write", -1, 7, " puts 9"), drop(-1)},
	} {
		place := 0
		if c.ahead != "" {
			place = 1 + strings.Count(c.ahead, "\n")
		}
		for text, rows := range map[string][]string{"get r2 @0": c.get, "take r2 @0": c.take, "put @0 9": c.put, "drop @0": c.drop} {
			f := lay(t, api.Polite, 100)
			j := f.job(c.ahead + "\n" + text + "\ndone r2")
			for f.Step(j); j.Place() < place; {
				f.Step(j)
			}
			for k, row := range rows {
				behind := place
				if k == len(rows)-1 {
					behind++
				}
				f.Does(j, first, fmt.Sprintf("%s | %d", row, behind))
			}
			f.Run(j)
			told := int64(0)
			if _, tail, found := strings.Cut(rows[len(rows)-1], "tells "); found && !strings.Contains(tail, "puts") {
				told, _ = strconv.ParseInt(tail, 10, 64)
			}
			f.answers(j, place+1, api.EndCommit, told, 1)
		}
	}
}

// Entries that stand in the table are looked at in a later open and at the end, each in a row of its own.
func TestChecks(t *testing.T) {
	f := layOver(t, 7, 8, 9)
	j := f.job("get r1 @0\nget r2 @1\ntake r3 @2\ndrop @0\nput @1 r3\ndone r3")
	f.Does(j, first,
		"none begin -1;-1;-1 @0 0>1 | 0",
		"read point 0;-1;-1 @3 0>0 | 0", "read status 0;-1;0 @1 2>2 | 0", "read mine 0;0;-1 @7 1>1 tells 7 | 1",
		"read point 1;-1;-1 @4 1>1 | 1", "read status 1;-1;0 @1 2>2 | 1",
		"read point 0;0;-1 @3 0>0 | 1", "read status 0;0;0 @1 2>2 | 1", "read mine 1;1;-1 @7 1>1 tells 8 | 2",
		"write point 2;-1;-1 @5 2>2 | 2", "write status 2;-1;0 @1 2>2 | 2", "write acquire 2;-1;-1 @5 2>3 | 2",
		"write point 0;0;-1 @3 0>0 | 2", "write status 0;0;0 @1 2>2 | 2",
		"write point 1;1;-1 @4 1>1 | 2", "write status 1;1;0 @1 2>2 | 2", "write mine 2;-1;-1 @7 1>1 tells 9 | 3",
		"none release 0;0;-1 | 4",
		"write point 1;-1;-1 @4 1>1 | 4", "write status 1;-1;0 @1 2>2 | 4", "write acquire 1;-1;-1 @4 1>4 | 4",
		"write mine 1;1;-1 @7 1>1 tells 8 puts 9 | 5",
		"final commit -1;-1;-1 @7 1>2 end commit | 5", "none return -1;-1;-1 | 5")
	f.answers(j, 5, api.EndCommit, 9, 1)
	f.committed(7, 9, 9)

	f = lay(t, api.Polite, 100)
	j = f.job("get r1 @1\nget r2 @0")
	f.Until(j, api.RowMine)
	f.Until(j, api.RowMine)
	f.Does(j, first,
		"final point 1;0;-1 @4 1>1 | 2", "final status 1;0;0 @1 2>2 | 2",
		"final point 0;1;-1 @3 0>0 | 2", "final status 0;1;0 @1 2>2 | 2",
		"final commit -1;-1;-1 @6 1>2 end commit | 2", "none return -1;-1;-1 | 2")
	f.answers(j, 2, api.EndCommit, 0, 1)
}

// Under a manager that keeps priorities a value is told at the boost: there the instruction is through.
func TestBoost(t *testing.T) {
	for _, kind := range []int{api.Karma, api.Polka} {
		f := lay(t, kind, 100)
		j := f.job("get r1 @0\nput @0 r1\ntake r2 @1\ndone r2")
		f.Does(j, first,
			"none begin -1;-1;-1 @0 0>1 | 0",
			"read point 0;-1;-1 @3 0>0 | 0", "read status 0;-1;0 @1 2>2 | 0", "read mine 0;-1;-1 @6 1>1 | 0",
			"read boost 0;0;-1 @5 0>1 tells 7 | 1",
			"write point 0;-1;-1 @3 0>0 | 1", "write status 0;-1;0 @1 2>2 | 1", "write acquire 0;-1;-1 @3 0>2 | 1",
			"write mine 0;-1;-1 @6 1>1 | 1", "write boost 0;0;-1 @5 1>2 tells 7 puts 7 | 2",
			"write point 1;-1;-1 @4 1>1 | 2", "write status 1;-1;0 @1 2>2 | 2", "write acquire 1;-1;-1 @4 1>3 | 2",
			"write mine 1;-1;-1 @6 1>1 | 2", "write boost 1;-1;-1 @5 2>3 tells 8 | 3",
			"final commit -1;-1;-1 @6 1>2 end commit | 3", "none return -1;-1;-1 | 3")
		f.answers(j, 3, api.EndCommit, 8, 1)
	}
}

// A conflict's rows belong to the instruction that met it, be it an open or the end.
func TestConflict(t *testing.T) {
	f := lay(t, api.Greedy, 50)
	i, j := f.jobOf(0, 0, fixture.Program(t, "put @0 70\ndone 1")), f.jobOf(1, 3, fixture.Program(t, "get r1 @1\nget r2 @0\ndone r2"))
	who := fixture.By(1, 3, 1, 2)
	f.Until(i, api.RowMine)
	f.Until(j, api.RowMine)
	f.Does(j, who,
		"read point 0;-1;-1 @3 2>2 | 1", "read status 0;-1;1 @6 1>1 | 1", "read mine 0;-1;1 @9 1>1 | 1",
		"read look 0;-1;1 @7 0>0 wait 4 | 1", "read up 0;-1;1 @10 0>1 | 1",
		"read wait 0;-1;1 wait 3 | 1", "read wait 0;-1;1 wait 2 | 1", "read wait 0;-1;1 wait 1 | 1")
	f.Until(i, api.RowCommit)
	f.Does(j, who,
		"read wait 0;-1;1 | 1", "read point 0;-1;-1 @3 2>2 | 1", "read status 0;-1;1 @6 2>2 | 1",
		"read down 0;-1;1 @10 1>0 | 1", "read point 1;0;-1 @4 1>1 | 1", "read status 1;0;0 @1 2>2 | 1",
		"read mine 0;1;-1 @9 1>1 tells 70 | 2")
	k := f.jobOf(4, 0, fixture.Program(t, "put @1 80"))
	f.Until(k, api.RowMine)
	f.Does(j, who,
		"final point 1;0;-1 @4 3>3 | 2", "final status 1;0;3 @12 1>1 | 2", "final mine 1;0;3 @9 1>1 | 2",
		"final look 1;0;3 @13 0>0 abort | 2", "final kill 1;0;3 @12 1>3 | 2",
		"final point 1;0;-1 @4 3>3 | 2", "final status 1;0;3 @12 3>3 | 2",
		"final point 0;1;-1 @3 2>2 | 2", "final status 0;1;1 @6 2>2 | 2",
		"final commit -1;-1;-1 @9 1>2 end commit | 2", "none return -1;-1;-1 | 2")
	f.answers(j, 2, api.EndCommit, 70, 1)
	f.Run(i)
	f.answers(i, 1, api.EndCommit, 1, 1)
	f.Run(k)
	f.answers(k, 1, api.EndCommit, 0, 2)
	f.committed(70, 80)
}

// A swap that is lost is gone about anew, and the put is laid where it is won.
func TestLostSwap(t *testing.T) {
	f := lay(t, api.Polite, 1)
	j := f.job("let r1 5\nput @0 r1\ndone r1")
	f.Until(j, api.RowStatus)
	f.overtaken(0, 70)
	f.Does(j, first,
		"write acquire 0;-1;-1 @3 2>2 lost | 1",
		"write point 0;-1;-1 @3 2>2 | 1", "write status 0;-1;2 @9 2>2 | 1", "write acquire 0;-1;-1 @3 2>4 | 1",
		"write mine 0;-1;-1 @6 1>1 tells 70 puts 5 | 2",
		"final commit -1;-1;-1 @6 1>2 end commit | 2", "none return -1;-1;-1 | 2")
	f.answers(j, 2, api.EndCommit, 5, 1)
	f.committed(5, 8)
}

// A bad object at each of the four codes, by number and by register, at any place and whatever was done ahead of it.
func TestBadObjects(t *testing.T) {
	for many := range api.MaxMap + 1 {
		nums := make([]int64, max(many, 1)) // no world is without an object, but a program may name none
		for x := range nums {
			nums[x] = int64(10 * x)
		}
		status := len(nums) + 4 // the clock, the genesis' two, the objects', the priority, and then this one
		quits := fmt.Sprintf("quit quit -1;-1;-1 @%d 1>3 end bad | ", status)
		for _, bad := range badNumbers(many) {
			if bad >= 0 && bad < int64(many) {
				continue
			}
			for _, form := range []string{"get r1 OBJ", "take r1 OBJ", "put OBJ 3", "put OBJ r2", "put OBJ r9", "drop OBJ"} {
				f := layOver(t, nums...)
				j := f.jobWith(strings.Replace(form, "OBJ", "@"+word.Format(bad), 1)+"\ndone 9", many)
				f.Does(j, first, "none begin -1;-1;-1 @0 0>1 | 0", quits+"0", "none return -1;-1;-1 | 0")
				f.answers(j, 0, api.EndBad, 0, 1)

				f = layOver(t, nums...)
				ahead := "let r2 " + word.Format(bad) + "\n"
				if many > 0 {
					ahead = "put @0 77\nget r3 @0\n" + ahead
				}
				j = f.jobWith(ahead+strings.Replace(form, "OBJ", "@r2", 1)+"\ndone 9", many)
				place := strings.Count(ahead, "\n")
				for f.Step(j); j.Place() < place; {
					f.Step(j)
				}
				f.Does(j, first, quits+strconv.Itoa(place), "none return -1;-1;-1 | "+strconv.Itoa(place))
				f.answers(j, place, api.EndBad, 0, 1)
				f.committed(nums...)
			}
		}
	}
}

// Every object that there is can be named, by number and by register; a program that may name fewer objects than the
// world has may not name the others.
func TestGoodObjects(t *testing.T) {
	for x := range api.MaxMap {
		n := strconv.Itoa(x)
		for _, obj := range []string{"@" + n, "@r9"} {
			for text, result := range map[string]int64{"get r1 ": int64(100 + x), "take r1 ": int64(100 + x), "drop ": 0, "put ": 0} {
				nums := make([]int64, api.MaxMap)
				for k := range nums {
					nums[k] = int64(100 + k)
				}
				f := layOver(t, nums...)
				instr := text + obj
				if text == "put " {
					instr += " -1"
				}
				j := f.job("let r9 " + n + "\n" + instr + "\ndone r1")
				f.Run(j)
				f.answers(j, 2, api.EndCommit, result, 1)
				if text == "put " {
					nums[x] = -1
				}
				f.committed(nums...)
				for _, fewer := range []int{0, x, x + 1} {
					f, outcome, place := layOver(t, nums...), api.EndBad, 1
					if fewer > x {
						outcome, place = api.EndCommit, 2
					}
					f.runs("let r9 "+n+"\n"+instr, fewer, outcome, place)
				}
			}
		}
	}
}

// runs looks how a job ends that may name so many objects.
func (f *floor) runs(text string, objects, outcome, place int) {
	f.Helper()
	j := f.jobWith(text, objects)
	f.Run(j)
	f.answers(j, place, outcome, 0, 1)
}

// An operand's register is looked at as the instruction is begun: the one that it fills may be the one that names. A
// put's source may be the register that names.
func TestRegisterNamesAndIsFilled(t *testing.T) {
	for text, want := range map[string][]int64{
		"get r0 @r0\nget r0 @r0\nget r0 @r0\ndone r0":               {7, 2, 7, 1},
		"take r0 @r0\ntake r0 @r0\nput @r0 r0\ndone r0":             {1, 2, 1, 1},
		"let r1 1\nput @r1 r1\nadd r1 r1 1\nput @r1 r1\ndone r1":    {2, 2, 1, 2},
		"let r1 2\nput @r1 5\nget r1 @r1\nsub r1 r1 r1\ndone r1":    {0, 2, 7, 5},
		"get r3 @1\nput @0 r3\nput @1 r3\nput @2 r3\ndone r3":       {7, 7, 7, 7},
		"get r3 @1\nlet r4 r3\nlet r3 0\nput @0 r4\nput @r3 r3":     {0, 0, 7, 1},
		"get r3 @1\nput @1 r3\nadd r3 r3 1\nput @1 r3\ndone r3":     {8, 2, 8, 1},
		"let r15 -5\nput @0 r15\nlet r0 r15\nput @2 r0\ndone r15":   {-5, -5, 7, -5},
		"put @0 9223372036854775807\nput @2 -9223372036854775808\n": {0, math.MaxInt64, 7, math.MinInt64},
	} {
		f := layOver(t, 2, 7, 1)
		j := f.job(text)
		f.Run(j)
		if a := j.Answer(); a != (api.Answer{Outcome: api.EndCommit, Result: want[0], Tries: 1}) {
			t.Errorf("%q: %+v", text, a)
		}
		f.committed(want[1:]...)
	}
}

// Sixteen registers, all 0 at the beginning, each with its own number.
func TestRegisters(t *testing.T) {
	for r := range lang.MaxRegs {
		name := "r" + strconv.Itoa(r)
		var all strings.Builder
		for k := range lang.MaxRegs {
			all.WriteString("let r" + strconv.Itoa(k) + " " + strconv.Itoa(100+k) + "\n")
		}
		for text, want := range map[string]int64{
			"done " + name:                                             0,
			all.String() + "done " + name:                              int64(100 + r),
			all.String() + "let " + name + " r3\ndone " + name:         103,
			all.String() + "get " + name + " @0\ndone " + name:         -7,
			all.String() + "take " + name + " @0\ndone " + name:        -7,
			all.String() + "add " + name + " 1 2\ndone " + name:        3,
			all.String() + "mul r0 " + name + " " + name + "\ndone r0": int64((100 + r) * (100 + r)),
		} {
			f := layOver(t, -7)
			j := f.job(text)
			f.Run(j)
			if a := j.Answer(); a != (api.Answer{Outcome: api.EndCommit, Result: want, Tries: 1}) {
				t.Errorf("%q: %+v, want %d", text, a, want)
			}
		}
	}
}

// Every operator and every relation, at the ends of int64 too, in one step without an access.
func TestLocal(t *testing.T) {
	some := []int64{0, 1, -1, 2, 63, 64, math.MaxInt64, math.MinInt64}
	for _, a := range some {
		for _, b := range some {
			for op := word.Add; op <= word.Max; op++ {
				want, _ := word.Apply(op, a, b)
				f := layOver(t, 0)
				j := f.jobOf(2, 5, []lang.Instr{{Code: lang.Let, Dst: 3, X: fixture.Num(a)}, {Code: lang.Calc, Dst: 4, X: fixture.Reg(3), Y: fixture.Num(b), Op: op}, {Code: lang.Done, X: fixture.Reg(4)}})
				f.Step(j)
				f.Does(j, first, "none local -1;-1;-1 | 1", "none local -1;-1;-1 | 2")
				f.Run(j)
				f.answers(j, 2, api.EndCommit, want, 1)
			}
			for rel := word.Eq; rel <= word.Ge; rel++ {
				behind := 2
				if holds, _ := word.Holds(rel, a, b); holds {
					behind = 3
				}
				f := layOver(t, 0)
				j := f.jobOf(2, 5, []lang.Instr{{Code: lang.Let, Dst: 3, X: fixture.Num(b)}, {Code: lang.If, X: fixture.Num(a), Y: fixture.Reg(3), Rel: rel, To: 3}, {Code: lang.Quit}})
				f.Step(j)
				f.Does(j, first, "none local -1;-1;-1 | 1", "none local -1;-1;-1 | "+strconv.Itoa(behind))
			}
		}
	}
}

// Jumps ahead, back, to the own place and to the end.
func TestJumps(t *testing.T) {
	local := func(places ...int) []string {
		var lines []string
		for _, p := range places {
			lines = append(lines, "none local -1;-1;-1 | "+strconv.Itoa(p))
		}
		return lines
	}
	for _, c := range []struct {
		text   string
		places []int
	}{
		{"goto a\nquit\na: let r1 1", []int{2, 3}},
		{"goto a\nquit\na:", []int{2}},
		{"if 1 == 1 a\nquit\na:", []int{2}},
		{"if 1 == 2 a\nlet r1 1\na:", []int{1, 2}},
		{"a: goto a", []int{0, 0, 0, 0}},
		{"let r1 1\na: if r1 == 1 a", []int{1, 1, 1, 1}},
		{"let r1 1\na: if r1 != 1 a", []int{1, 2}},
		{"a: add r1 r1 1\nif r1 < 3 a\ngoto b\nquit\nb: let r2 2", []int{1, 0, 1, 0, 1, 2, 4, 5}},
		{"goto c\na: goto b\nc: goto a\nquit\nb: if r0 < r1 a", []int{2, 1, 4, 5}},
		{"goto a\na: if 1 < 2 b\nb: goto c\nc:", []int{1, 2, 3}},
	} {
		f := lay(t, api.Polite, 100)
		j := f.job(c.text)
		f.Step(j)
		f.Does(j, first, local(c.places...)...)
		end := len(fixture.Program(t, c.text))
		if c.places[len(c.places)-1] == end {
			f.Does(j, first, fmt.Sprintf("final commit -1;-1;-1 @6 1>2 end commit | %d", end), fmt.Sprintf("none return -1;-1;-1 | %d", end))
			f.answers(j, end, api.EndCommit, 0, 1)
		}
	}
}

// A program of as many instructions as may be runs to its end.
func TestLongest(t *testing.T) {
	f := lay(t, api.Polite, 100)
	j := f.job(strings.Repeat("add r1 r1 1\n", lang.MaxCode-1) + "put @1 r1")
	rows := f.Run(j)
	if len(rows) != 1+63+4+1+1 {
		t.Errorf("%d rows", len(rows))
	}
	f.answers(j, 64, api.EndCommit, 0, 1)
	f.committed(7, 63)
}

// Two steps within one open step of the memory: the second one has no access left, where it needs one.
func TestTwoWithinOneStep(t *testing.T) {
	f := lay(t, api.Polite, 100)
	j := f.job("let r1 3\nget r2 @0\ndrop @0\nput @5 1")
	f.Refused(j, api.ErrClosed)
	f.Open()
	f.Must(j, api.RowBegin)
	f.Must(j, api.RowLocal)
	f.Refused(j, api.ErrClosed)
	f.Open()
	f.Must(j, api.RowPoint)
	f.Refused(j, api.ErrClosed)
	f.Open()
	f.Must(j, api.RowStatus)
	f.Open()
	f.Must(j, api.RowMine)
	f.Must(j, api.RowRelease)
	f.Refused(j, api.ErrClosed)
	f.Refused(j, api.ErrClosed)
	f.Open()
	f.Must(j, api.RowQuit)
	f.Must(j, api.RowReturn)
	f.answers(j, 3, api.EndBad, 0, 1)
}
