package compile_test

import (
	"slices"
	"testing"

	"braid/api"
	"braid/compile"
	"braid/fixture"
	"braid/lang"
)

// leaves looks at what Tidy leaves of a program.
func leaves(t *testing.T, parted, want string) {
	t.Helper()
	code := coded(t, parted)
	tidy := tidied(t, code)
	if !slices.Equal(tidy, coded(t, want)) {
		t.Errorf("Tidy(%q) = %q, want %q", text(code), text(tidy), text(coded(t, want)))
	}
	for _, over := range []objects{nil, {0}, {0, 1, 2, 3}, {5, 9, -1, 7}} {
		sameRun(t, code, tidy, over, nil, 300)
		sameRun(t, code, tidy, over, given{use(2), {}, use(0)}, 300)
	}
}

// What lang.Check refuses: its error, and no program.
func TestRefusedPrograms(t *testing.T) {
	quits := slices.Repeat(program{{Code: lang.Quit}}, 65)
	for _, c := range []struct {
		code program
		want api.Errno
	}{
		{quits, api.ErrMany}, {slices.Repeat(quits, 9), api.ErrMany}, {make(program, 65), api.ErrMany},
		{make(program, 1), api.ErrCode}, {make(program, 64), api.ErrCode}, {program{{Code: 11}}, api.ErrCode}, {program{{Code: -1}}, api.ErrCode},
		{program{{Code: lang.Goto, To: 2}}, api.ErrCode}, {program{{Code: lang.Goto, To: -1}}, api.ErrCode},
		{program{{Code: lang.Quit, To: 1}}, api.ErrCode}, {program{{Code: lang.Let, Dst: 16}}, api.ErrCode},
		{program{{Code: lang.If}}, api.ErrCode}, {program{{Code: lang.Calc}}, api.ErrCode},
		{program{{Code: lang.Done, X: fixture.Reg(16)}}, api.ErrCode}, {program{{Code: lang.Done}, {Code: lang.Get, Obj: fixture.Reg(-1)}}, api.ErrCode},
		{append(quits[:63:63], lang.Instr{Code: lang.If, Rel: 1, To: 65}), api.ErrCode},
	} {
		if e, _ := lang.Check(c.code); e != c.want {
			t.Fatalf("Check(%+v) = %d", c.code, e)
		}
		if tidy, e := compile.Tidy(c.code); tidy != nil || e != c.want {
			t.Errorf("Tidy(%+v) = %q, %d, want %d", c.code, text(tidy), e, c.want)
		}
	}
	if tidy := tidied(t, quits[:64]); len(tidy) != 1 {
		t.Errorf("%q", text(tidy))
	}
}

func TestTidyOfNothing(t *testing.T) {
	for _, code := range []program{nil, {}} {
		if tidy := tidied(t, code); len(tidy) != 0 {
			t.Errorf("%q", text(tidy))
		}
	}
}

// What is tidy stays as it is.
func TestTidyStays(t *testing.T) {
	for _, parted := range []string{
		"quit", "done 5", "let r1 5", "let r1 r2 / let r2 r1", "x: goto x", "get r1 @0 / add r1 r1 1 / put @0 r1 / done r1",
		"get r1 @-1", "drop @3 / drop @3", "let r1 1 / let r1 1", "add r1 r1 0", "take r1 @0 / take r1 @0",
		"if r0 == r0 e / quit / e:", "if r0 < 1 e / quit / e: done 1", "if 1 < r0 e / quit / e:",
		"x: if r0 == 0 x", "x: if r0 == 0 x / quit", "x: get r1 @0 / if r1 != 0 x / done r1",
		"x: if r0 == 0 e / drop @1 / goto x / e:", "x: drop @1 / goto x",
		"if r0 == 0 x / done 1 / x: goto x", "if r0 == 0 x / quit / x: goto x", "if r0 == 0 a / drop @1 / if r1 == 0 b / quit / a: goto a / b: quit",
		"goto b / a: drop @1 / goto c / b: if r0 == 0 a / drop @2 / c: quit",
	} {
		leaves(t, parted, parted)
	}
}

// Jumps to the place just behind them.
func TestJumpsToTheNext(t *testing.T) {
	leaves(t, "goto e / e:", "")
	leaves(t, "goto e / e: done 5", "done 5")
	leaves(t, "drop @1 / goto e / e: done 5", "drop @1 / done 5")
	leaves(t, "if r0 == 1 e / e:", "")
	leaves(t, "get r0 @0 / if r0 > 1 e / e: done 5", "get r0 @0 / done 5")
	leaves(t, "goto a / a: goto b / b: goto c / c: quit", "quit")
	leaves(t, "if r0 == 0 a / a: if r1 == 0 b / b: if r2 == 0 c / c: quit", "quit")
	leaves(t, "x: drop @0 / goto y / y: goto x", "x: drop @0 / goto x")
	// who leads to such a one leads to what stands behind it
	leaves(t, "get r0 @0 / if r0 == 0 a / drop @1 / a: goto b / b: quit", "get r0 @0 / if r0 == 0 a / drop @1 / a: quit")
}

// Jumps to a Goto, to several, to the end.
func TestJumpsToAGoto(t *testing.T) {
	leaves(t, "get r0 @0 / if r0 == 0 a / done 1 / a: goto b / c: done 2 / b: done 3", "get r0 @0 / if r0 == 0 a / done 1 / a: done 3")
	leaves(t, "get r0 @0 / if r0 == 0 a / goto c / a: goto b / c: done 2 / b: quit", "get r0 @0 / if r0 == 0 b / done 2 / b: quit")
	leaves(t, "get r0 @0 / if r0 == 0 a / drop @0 / c: if r0 == 1 a / goto e / a: goto c / e:", "get r0 @0 / if r0 == 0 c / drop @0 / c: if r0 == 1 c")
	leaves(t, "get r0 @0 / if r0 == 0 a / goto b / a: goto e / b: goto f / f: drop @1 / goto e / e:", "get r0 @0 / if r0 == 0 e / drop @1 / e:")
	leaves(t, "goto a / b: drop @1 / goto c / a: goto b / c: quit", "drop @1 / quit")
	leaves(t, "a: drop @1 / goto b / b: goto c / c: goto a", "a: drop @1 / goto a")
	// one that is fallen into stays, and leads on by itself
	leaves(t, "x: if r0 == 1 y / drop @1 / z: goto x / y: drop @2 / if r1 == 0 z / quit", "x: if r0 == 1 y / drop @1 / goto x / y: drop @2 / if r1 == 0 x / quit")
}

// Rings of Gotos, and Gotos that lead to themselves.
func TestRings(t *testing.T) {
	leaves(t, "x: goto x", "x: goto x")
	leaves(t, "a: goto b / b: goto a", "x: goto x")
	leaves(t, "b: goto c / a: goto b / c: goto a", "x: goto x")
	leaves(t, "goto a / a: goto b / b: goto a", "x: goto x")
	leaves(t, "goto a / quit / b: goto c / a: goto b / c: goto a", "x: goto x")
	leaves(t, "drop @1 / a: goto b / b: goto a", "drop @1 / x: goto x")
	leaves(t, "drop @1 / b: goto a / a: goto b / quit", "drop @1 / x: goto x")
	leaves(t, "get r0 @0 / if r0 == 0 a / done 1 / a: goto b / b: goto a", "get r0 @0 / if r0 == 0 a / done 1 / a: goto a")
	leaves(t, "get r0 @0 / if r0 == 0 b / done 1 / a: goto b / b: goto a", "get r0 @0 / if r0 == 0 a / done 1 / a: goto a")
	leaves(t, "get r0 @0 / if r0 == 0 b / a: goto b / b: goto a", "get r0 @0 / x: goto x")
	leaves(t, "x: let r1 r1 / goto x", "x: goto x")
	leaves(t, "x: let r1 r1 / let r2 r2 / goto x / quit", "x: goto x")
	leaves(t, "x: if 1 < 2 x", "x: goto x")
	leaves(t, "x: if r0 == 0 x / goto x", "x: goto x")
	leaves(t, "x: if r0 == 0 y / y: goto x", "x: goto x")
	leaves(t, "x: if 2 < 1 y / goto x / y: quit", "x: goto x")
	leaves(t, "a: if r0 == 1 b / goto a / b: goto a", "x: goto x")
	// two rings stay two, where one cannot be told to be the other
	leaves(t, "get r0 @0 / if r0 == 0 a / b: goto b / a: goto a", "get r0 @0 / if r0 == 0 a / b: goto b / a: goto a")
}

// Ifs of two numbers, by each relation.
func TestNumbersInAnIf(t *testing.T) {
	leaves(t, "if 1 < 2 e / quit / e:", "")
	leaves(t, "if 2 < 1 e / quit / e:", "quit")
	for rel, holds := range map[string][3]bool{"==": {false, true, false}, "!=": {true, false, true}, "<": {true, false, false}, "<=": {true, true, false}, ">": {false, false, true}, ">=": {false, true, true}} {
		for k, two := range [][2]string{{"-9223372036854775808", "9223372036854775807"}, {"7", "7"}, {"0", "-1"}} {
			parted := "drop @0 / if " + two[0] + " " + rel + " " + two[1] + " e / drop @1 / e: drop @2"
			if holds[k] {
				leaves(t, parted, "drop @0 / drop @2")
			} else {
				leaves(t, parted, "drop @0 / drop @1 / drop @2")
			}
		}
	}
	leaves(t, "s: if 0 == 0 m / goto e / m: drop @1 / goto s / e:", "s: drop @1 / goto s")
	leaves(t, "s: if 0 != 0 m / goto e / m: drop @1 / goto s / e:", "")
}

func TestOwnRegister(t *testing.T) {
	leaves(t, "let r1 r1", "")
	leaves(t, "let r1 r1 / let r15 r15 / done r1", "done r1")
	leaves(t, "x: let r0 r0 / get r1 @0 / if r1 == 0 x / quit", "x: get r1 @0 / if r1 == 0 x / quit")
	leaves(t, "let r1 1 / let r1 r1 / let r0 0 / done r1", "let r1 1 / let r0 0 / done r1")
	leaves(t, "get r1 @0 / if r1 == 0 e / let r1 r1 / e: done r1", "get r1 @0 / done r1")
}

// Instructions to which no walk comes.
func TestNeverReached(t *testing.T) {
	leaves(t, "done 1 / done 2 / quit", "done 1")
	leaves(t, "quit / x: goto x", "quit")
	leaves(t, "goto e / drop @1 / drop @2 / e: quit", "quit")
	leaves(t, "get r0 @0 / if r0 == 0 a / done 1 / drop @1 / a: quit / drop @2", "get r0 @0 / if r0 == 0 a / done 1 / a: quit")
	leaves(t, "goto b / a: drop @1 / goto a / b: quit", "quit")
	leaves(t, "goto b / a: drop @1 / if r0 == 0 b / goto a / b: quit", "quit")
	leaves(t, "x: drop @1 / goto x / drop @2 / goto x", "x: drop @1 / goto x")
}

// Ifs whose two ways are one.
func TestOneWay(t *testing.T) {
	leaves(t, "get r0 @0 / if r0 == 0 x / goto x / drop @1 / x: quit", "get r0 @0 / quit")
	leaves(t, "get r0 @0 / if r0 == 0 x / goto y / x: goto y / y: done 3", "get r0 @0 / done 3")
	leaves(t, "x: drop @0 / if r0 == 0 x / goto x", "x: drop @0 / goto x")
	leaves(t, "drop @0 / if r0 == 0 e / if r1 == 0 e / if r2 == 0 e / e: quit", "drop @0 / quit")
	leaves(t, "get r0 @0 / if r0 == 0 a / if r0 == 1 b / goto c / a: goto c / b: goto c / c: drop @1", "get r0 @0 / drop @1")
}

// One of these brings forth the next.
func TestOneBringsForthTheNext(t *testing.T) {
	leaves(t, "let r1 r1 / if 1 < 2 e / quit / e:", "")
	leaves(t, "if r0 == 0 a / let r1 r1 / a: goto b / quit / b: done 1", "done 1")
	leaves(t, "get r0 @0 / if r0 == 0 a / if 2 < 1 b / goto c / b: drop @1 / a: goto c / c: done 1", "get r0 @0 / done 1")
	leaves(t, "goto a / b: goto c / a: if r0 == 0 b / goto c / quit / c: goto d / d: drop @1", "drop @1")
	leaves(t, "if r0 == 0 x / goto y / x: if r1 == 0 z / goto y / z: let r2 r2 / y: if 1 == 1 e / drop @9 / e: done 4", "done 4")
	leaves(t, "get r0 @0 / if r0 == 0 a / goto b / a: if 0 == 1 c / b: drop @2 / goto e / c: drop @3 / e: quit", "get r0 @0 / drop @2 / quit")
	leaves(t, "x: if r0 == 0 y / goto z / y: let r1 r1 / z: goto x", "x: goto x")
}

// alphabet is what stands at a place of a small program of so many instructions.
func alphabet(size int) []lang.Instr {
	list := program{
		{Code: lang.Let, Dst: 0, X: fixture.Reg(0)},
		{Code: lang.Get, Dst: 0, Obj: fixture.Num(0)},
		{Code: lang.Calc, Dst: 0, X: fixture.Reg(0), Op: 1, Y: fixture.Num(1)},
		{Code: lang.Done, X: fixture.Reg(0)},
	}
	for to := range size + 1 {
		list = append(list,
			lang.Instr{Code: lang.Goto, To: to},
			lang.Instr{Code: lang.If, X: fixture.Num(1), Rel: 1, Y: fixture.Num(1), To: to},
			lang.Instr{Code: lang.If, X: fixture.Num(1), Rel: 2, Y: fixture.Num(1), To: to},
			lang.Instr{Code: lang.If, X: fixture.Reg(0), Rel: 1, Y: fixture.Num(0), To: to})
	}
	return list
}

// All small programs of an alphabet, and some of those that are longer by one.
func TestSmallPrograms(t *testing.T) {
	t.Parallel()
	for size, step := range []int{1, 1, 1, 1, 97} {
		letters := alphabet(size)
		all := 1
		for range size {
			all *= len(letters)
		}
		for k := 0; k < all; k += step {
			var code program
			for rest := k; len(code) < size; rest /= len(letters) {
				code = append(code, letters[rest%len(letters)])
			}
			tidy := tidied(t, code)
			sameRun(t, code, tidy, objects{0}, nil, 40)
			sameRun(t, code, tidy, objects{7}, nil, 40)
		}
	}
}
