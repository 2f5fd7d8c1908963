package lang_test

import (
	"slices"
	"testing"

	"braid/api"
	"braid/fixture"
	"braid/lang"
	"braid/word"
)

func TestExample1(t *testing.T) {
	for _, text := range []string{"", "  # nothing\n\n"} {
		code := reads(t, text)
		prints(t, code, "")
		forward(t, code, true)
		longest(t, code, 0, api.OK)
	}
}

func TestExample2(t *testing.T) {
	text := "get r1 @0\nadd r1 r1 1\nput @0 r1\ndone r1\n"
	code := reads(t, text,
		lang.Instr{Code: lang.Get, Dst: 1, Obj: fixture.Num(0)},
		lang.Instr{Code: lang.Calc, Dst: 1, X: fixture.Reg(1), Y: fixture.Num(1), Op: word.Add},
		lang.Instr{Code: lang.Put, Obj: fixture.Num(0), X: fixture.Reg(1)},
		lang.Instr{Code: lang.Done, X: fixture.Reg(1)})
	checks(t, code, api.OK, 0)
	forward(t, code, true)
	longest(t, code, 4, api.OK)
	prints(t, code, text)
}

func TestExample3(t *testing.T) {
	code := reads(t, "a: b: let r0 5 # x\nif r0 > 0 b",
		lang.Instr{Code: lang.Let, X: fixture.Num(5)},
		lang.Instr{Code: lang.If, X: fixture.Reg(0), Y: fixture.Num(0), Rel: word.Gt, To: 0})
	prints(t, code, "l0:\nlet r0 5\nif r0 > 0 l0\n")
	forward(t, code, false)
	longest(t, code, 0, api.ErrLoop)
}

func TestExample4(t *testing.T) {
	code := reads(t, "goto end\nquit\nend:", lang.Instr{Code: lang.Goto, To: 2}, lang.Instr{Code: lang.Quit})
	prints(t, code, "goto l0\nquit\nl0:\n")
	longest(t, code, 1, api.OK)
}

func TestExample5(t *testing.T) {
	faulty(t, "get r1", api.ErrMissing, 1, 7)
	faulty(t, "get  # r1 @1", api.ErrMissing, 1, 4)
	faulty(t, "get r16 @1", api.ErrOperand, 1, 5)
	faulty(t, "get r1 @r01", api.ErrOperand, 1, 8)
	faulty(t, "get r1 @1 x", api.ErrExtra, 1, 11)
	faulty(t, "quit x:", api.ErrExtra, 1, 6)
}

func TestExample6(t *testing.T) {
	faulty(t, "\tGet r1 @1", api.ErrWord, 1, 2)
	faulty(t, "x: x: quit", api.ErrTwice, 1, 4)
	faulty(t, "X: quit", api.ErrWord, 1, 1)
	faulty(t, ":", api.ErrWord, 1, 1)
	faulty(t, "quit\r\n", api.ErrWord, 1, 1)
}

func TestExample7(t *testing.T) {
	faulty(t, "goto a\nput @1 9223372036854775808", api.ErrOperand, 2, 8)
	faulty(t, "goto a\nif r0 < 1 b\n", api.ErrLabel, 1, 6)
}

func TestExample8(t *testing.T) {
	faulty(t, lines(65, "quit"), api.ErrMany, 65, 1)
	faulty(t, lines(64, "quit")+"quit x", api.ErrMany, 65, 1)
	faulty(t, lines(64, "quit")+"stop", api.ErrWord, 65, 1)
	reads(t, lines(64, "quit")+"x:", slices.Repeat([]lang.Instr{{Code: lang.Quit}}, 64)...)
}

func TestExample9(t *testing.T) {
	checks(t, []lang.Instr{{Code: lang.Quit, To: 1}}, api.ErrCode, 0)
	checks(t, []lang.Instr{{Code: lang.Goto, To: 1}}, api.OK, 0)
	checks(t, []lang.Instr{{Code: lang.Goto, To: 2}}, api.ErrCode, 0)
	checks(t, []lang.Instr{{Code: lang.Done}, {Code: lang.Get, Dst: 16}}, api.ErrCode, 1)
}

func TestExample10(t *testing.T) {
	longest(t, fixture.Program(t, "if r0 == 0 a\nlet r1 1\nlet r2 2\na: done r1"), 4, api.OK)
	longest(t, fixture.Program(t, "done 0\nx: goto x"), 1, api.OK)
}

func TestNumbersOfTheLayer(t *testing.T) {
	for i, code := range []lang.Code{lang.Get, lang.Take, lang.Put, lang.Drop, lang.Let, lang.Calc, lang.If, lang.Goto, lang.Quit, lang.Done} {
		if code != lang.Code(i+1) {
			t.Errorf("code %d is the %d.", code, i+1)
		}
	}
	if lang.MaxText != 4096 || lang.MaxCode != 64 || lang.MaxRegs != 16 || lang.MaxName != 16 {
		t.Errorf("limits: %d, %d, %d, %d", lang.MaxText, lang.MaxCode, lang.MaxRegs, lang.MaxName)
	}
	for i, e := range []api.Errno{api.ErrLong, api.ErrWord, api.ErrMissing, api.ErrOperand, api.ErrExtra, api.ErrTwice, api.ErrMany, api.ErrLabel, api.ErrCode, api.ErrLoop} {
		if e != api.Errno(100+i) {
			t.Errorf("error %d is the %d.", e, i)
		}
	}
}

// spoil writes over a list and the room behind it.
func spoil(code []lang.Instr) {
	for i := range code[:cap(code)] {
		code[:cap(code)][i] = lang.Instr{Code: -7, Dst: -7, Obj: fixture.Reg(-7), X: fixture.Reg(-7), Y: fixture.Reg(-7), Op: -7, Rel: -7, To: -7}
	}
}

func TestAnswersShareNothing(t *testing.T) {
	text := "x: get r3 @r2\nif r3 < 7 x\nadd r1 r2 r3\ngoto y\nput @1 r2\ny: done r3\n"
	first := fixture.Program(t, text)
	want := slices.Clone(first)
	second := fixture.Program(t, text)
	spoil(first)
	if !slices.Equal(second, want) {
		t.Errorf("the second answer holds %+v", second)
	}
	if third := fixture.Program(t, text); !slices.Equal(third, want) {
		t.Errorf("the third answer is %+v", third)
	}
}

func TestNothingHandedInIsChanged(t *testing.T) {
	text := lines(10, "if r0 == 1 x") + "x: y: done 1"
	room := append(fixture.Program(t, text), lang.Instr{Code: lang.Quit}, lang.Instr{Code: 99, To: 99})
	want := slices.Clone(room)
	code := room[:11]
	checks(t, code, api.OK, 0)
	prints(t, code, lines(10, "if r0 == 1 l0")+"l0:\ndone 1\n")
	forward(t, code, true)
	longest(t, code, 11, api.OK)
	if !slices.Equal(room, want) {
		t.Errorf("the list and the room behind it are %+v", room)
	}
}

// A fault leaves nothing behind: texts one behind the other tell what each tells alone.
func TestNothingIsKept(t *testing.T) {
	for range 3 {
		faulty(t, "x: get r1 @1\nx:", api.ErrTwice, 2, 1)
		reads(t, "x: quit", lang.Instr{Code: lang.Quit})
		faulty(t, "goto x", api.ErrLabel, 1, 6)
		faulty(t, lines(64, "quit")+"x: quit", api.ErrMany, 65, 4)
		reads(t, "y: quit", lang.Instr{Code: lang.Quit})
		faulty(t, "goto y", api.ErrLabel, 1, 6)
	}
}
