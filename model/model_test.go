package model_test

import (
	"strings"
	"testing"

	"braid/api"
	"braid/fixture"
	"braid/lang"
	"braid/model"
)

func TestExample1(t *testing.T) {
	runs(t, inc, objects{5, 7}, nil, 100, alone(api.EndCommit, 6, objects{6, 7}, 4))
	runs(t, inc, objects{5, 7}, nil, 4, alone(api.EndCommit, 6, objects{6, 7}, 4))
	runs(t, inc, objects{5, 7}, nil, 3, alone(api.EndNone, 0, objects{5, 7}, 3))
}

func TestExample2(t *testing.T) {
	runs(t, inc, objects{5, 7}, given{use(40)}, 100, alone(api.EndCommit, 41, objects{41, 7}, 4))
	runs(t, inc, objects{5, 7}, given{{Value: 40}}, 100, alone(api.EndCommit, 6, objects{6, 7}, 4))
}

func TestExample3(t *testing.T) {
	for _, none := range []objects{nil, {}} {
		runs(t, "", none, nil, 1, alone(api.EndCommit, 0, nil, 1))
		runs(t, "", none, nil, 0, alone(api.EndNone, 0, nil, 0))
	}
}

func TestExample4(t *testing.T) {
	over := objects{5, 7}
	runs(t, "get r1 @2", over, nil, 100, alone(api.EndBad, 0, over, 1))
	runs(t, "put @0 9\nget r1 @-1", over, nil, 100, alone(api.EndBad, 0, over, 2))
	runs(t, "put @0 9\nquit", over, nil, 100, alone(api.EndUser, 0, over, 2))
	runs(t, "drop @2", over, nil, 100, alone(api.EndBad, 0, over, 1))
}

func TestExample5(t *testing.T) {
	runs(t, "get r1 @0\ndrop @0\nget r2 @0\nsub r3 r1 r2\ndone r3", objects{5}, given{use(8)}, 100, alone(api.EndCommit, 3, objects{5}, 5))
}

func TestExample6(t *testing.T) {
	runs(t, "get r1 @0\ntake r2 @0\nsub r3 r1 r2\ndone r3", objects{5}, given{use(8)}, 100, alone(api.EndCommit, 3, objects{5}, 4))
}

func TestExample7(t *testing.T) {
	runs(t, "put @0 9\nget r1 @0\ndrop @0\nget r2 @0\nadd r2 r2 r1\nput @0 r2", objects{5}, nil, 100, alone(api.EndCommit, 0, objects{18}, 7))
}

func TestExample8(t *testing.T) {
	runs(t, "let r1 1\nx: add r1 r1 r1\nif r1 < 100 x\ndone r1", nil, nil, 100, alone(api.EndCommit, 128, nil, 16))
	for _, fuel := range []int{0, 1, 2, 77, 9999, 10000} {
		runs(t, "x: goto x", nil, nil, fuel, alone(api.EndNone, 0, nil, fuel))
	}
}

func TestExample9(t *testing.T) {
	text := "get r1 @r0\nget r2 @r1"
	runs(t, text, objects{1, 1 << 62}, nil, 100, alone(api.EndCommit, 0, objects{1, 1 << 62}, 3))
	runs(t, text+"\ndone r2", objects{1, 1 << 62}, nil, 100, alone(api.EndCommit, 1<<62, objects{1, 1 << 62}, 3))
	runs(t, text, objects{3, 0}, nil, 100, alone(api.EndBad, 0, objects{3, 0}, 2))
}

func TestExample10(t *testing.T) {
	p := fixture.Program(t, inc)
	series(t, [][]lang.Instr{p, fixture.Program(t, "quit"), p}, objects{5}, 100,
		alone(api.EndCommit, 6, objects{6}, 4), alone(api.EndUser, 0, objects{6}, 1), alone(api.EndCommit, 7, objects{7}, 4))
}

// A program that lang.Check refuses: its own error, whatever else is wrong.
func TestRefusedProgram(t *testing.T) {
	many := make([]lang.Instr, lang.MaxCode+1)
	for _, c := range []struct {
		code []lang.Instr
		e    api.Errno
	}{
		{refusedCode, api.ErrCode},
		{make([]lang.Instr, 1), api.ErrCode},
		{[]lang.Instr{{Code: lang.Done}, {Code: lang.Done + 1}}, api.ErrCode},
		{[]lang.Instr{{Code: lang.Let, Dst: lang.MaxRegs}}, api.ErrCode},
		{[]lang.Instr{{Code: lang.Let, Dst: -1}}, api.ErrCode},
		{[]lang.Instr{{Code: lang.Done, X: fixture.Reg(lang.MaxRegs)}}, api.ErrCode},
		{[]lang.Instr{{Code: lang.Drop, Obj: fixture.Reg(-1)}}, api.ErrCode},
		{[]lang.Instr{{Code: lang.Calc}}, api.ErrCode},
		{[]lang.Instr{{Code: lang.If}}, api.ErrCode},
		{[]lang.Instr{{Code: lang.Goto, To: 2}}, api.ErrCode},
		{[]lang.Instr{{Code: lang.Goto, To: -1}}, api.ErrCode},
		{many, api.ErrMany},
		{append(many, many...), api.ErrMany},
	} {
		for _, over := range []int{0, 16, 17} {
			for _, g := range []int{0, 4096, 4097} {
				for _, fuel := range []int{-1, 0, 10000, 10001} {
					refuses(t, c.code, make(objects, over), make(given, g), fuel, c.e)
				}
			}
		}
	}
}

// The three errors of the layer, each beside those that come later.
func TestRefused(t *testing.T) {
	fuels := append([]int{-1, 10001, -2, 10002, 1 << 32}, far...)
	for _, code := range [][]lang.Instr{nil, {}, fixture.Program(t, inc), fixture.Program(t, "x: goto x")} {
		for _, over := range []int{17, 18, 32, 1000} {
			for _, g := range []int{0, 4096, 4097} {
				for _, fuel := range append(fuels, 0, 5, 10000) {
					refuses(t, code, make(objects, over), make(given, g), fuel, api.ErrObjects)
				}
			}
		}
		for _, over := range []int{0, 1, 16} {
			for _, g := range []int{4097, 4098, 10000} {
				for _, fuel := range append(fuels, 0, 5, 10000) {
					refuses(t, code, make(objects, over), make(given, g), fuel, api.ErrGiven)
				}
			}
			for _, g := range []int{0, 1, 4096} {
				for _, fuel := range fuels {
					refuses(t, code, make(objects, over), make(given, g), fuel, api.ErrFuel)
				}
			}
		}
	}
}

// The limits themselves are no errors: 64 instructions, 16 objects, 4096 given reads, the fuel 0 and 10000.
func TestLimits(t *testing.T) {
	over := make(objects, api.MaxMap)
	over[15] = 3
	left := make(objects, api.MaxMap)
	left[15] = 4
	g := make(given, api.MaxGiven)
	runs(t, "get r15 @15\nadd r15 r15 1\nput @15 r15", over, g, api.MaxFuel, alone(api.EndCommit, 0, left, 4))
	runs(t, inc, over, g, 0, alone(api.EndNone, 0, over, 0))
	a := answer(t, slicesOf(lang.MaxCode, lang.Instr{Code: lang.Let, X: fixture.Num(1)}), over, g, api.MaxFuel)
	if !same(a, alone(api.EndCommit, 0, over, lang.MaxCode+1)) {
		t.Errorf("64 instructions: %+v", a)
	}
	// A loop that reads anew 4096 times: the last read has the last given value, and one more would have none.
	loop := "x: " + strings.Repeat("drop @0\nget r1 @0\n", 16) + "add r2 r2 1\nif r2 < 256 x\n"
	for k := range g {
		g[k] = use(int64(k))
	}
	runs(t, loop+"done r1", objects{-1}, g, api.MaxFuel, alone(api.EndCommit, 4095, objects{-1}, 256*34+1))
	runs(t, loop+"done r1", objects{-1}, g[:4095], api.MaxFuel, alone(api.EndCommit, -1, objects{-1}, 256*34+1))
	runs(t, loop+"drop @0\nget r1 @0\ndone r1", objects{-1}, g, api.MaxFuel, alone(api.EndCommit, -1, objects{-1}, 256*34+3))
}

// What the run answers is told by the numbers that it was given, and by nothing of a run ahead of it.
func TestNothingIsKept(t *testing.T) {
	first := answer(t, fixture.Program(t, inc), objects{5}, nil, 100)
	answer(t, fixture.Program(t, "let r0 9\nlet r1 9\nput @0 9\ndone 9"), objects{0}, given{use(3)}, 100)
	if _, e := model.Run(refusedCode, nil, nil, 1); e != api.ErrCode {
		t.Errorf("Run of a program that is refused: %d", e)
	}
	if again := answer(t, fixture.Program(t, inc), objects{5}, nil, 100); !same(first, again) {
		t.Errorf("%+v, then %+v", first, again)
	}
}
