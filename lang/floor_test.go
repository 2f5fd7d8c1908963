package lang_test

import (
	"math"
	"slices"
	"strings"
	"testing"

	"braid/api"
	"braid/lang"
)

// far are numbers that no register and no place has.
var far = []int{math.MinInt, math.MinInt32, -1 << 16, -65, -16, -2, -1, 65, 256, 1 << 16, math.MaxInt32, math.MaxInt}

// codes are the ten, with the words of an instruction of each as the chapter's table has them. (Calc's own word is one
// of word's operators: add stands for all of them.)
var codes = []struct {
	code lang.Code
	form string
}{
	{lang.Get, "get rD OBJ"},
	{lang.Take, "take rD OBJ"},
	{lang.Put, "put OBJ SRC"},
	{lang.Drop, "drop OBJ"},
	{lang.Let, "let rD SRC"},
	{lang.Calc, "add rD SRC SRC"},
	{lang.If, "if SRC REL SRC LABEL"},
	{lang.Goto, "goto LABEL"},
	{lang.Quit, "quit"},
	{lang.Done, "done SRC"},
}

const operators = "add sub mul div rem and or xor shl shr min max"

const relations = "== != < <= > >="

// reads looks that a text is the program.
func reads(t *testing.T, text string, want ...lang.Instr) []lang.Instr {
	t.Helper()
	code, f := lang.Parse(text)
	if f != (lang.Fault{}) || !slices.Equal(code, want) {
		t.Fatalf("Parse(%.200q) = %+v, %+v, want %+v", text, code, f, want)
	}
	if e, at := lang.Check(code); e != api.OK || at != 0 {
		t.Fatalf("Check of %.200q: %d, %d", text, e, at)
	}
	return code
}

// faulty looks that a text has that first fault.
func faulty(t *testing.T, text string, e api.Errno, line, col int) {
	t.Helper()
	code, f := lang.Parse(text)
	if want := (lang.Fault{Err: e, Line: line, Col: col}); code != nil || f != want {
		t.Errorf("Parse(%.200q) = %+v, %+v, want %+v", text, code, f, want)
	}
}

func prints(t *testing.T, code []lang.Instr, want string) {
	t.Helper()
	if text, e := lang.Print(code); text != want || e != api.OK {
		t.Errorf("Print(%+v) = %q, %d, want %q", code, text, e, want)
	}
}

func forward(t *testing.T, code []lang.Instr, want bool) {
	t.Helper()
	if all, e := lang.Forward(code); all != want || e != api.OK {
		t.Errorf("Forward(%+v) = %v, %d, want %v", code, all, e, want)
	}
}

func longest(t *testing.T, code []lang.Instr, want int, err api.Errno) {
	t.Helper()
	if n, e := lang.Longest(code); n != want || e != err {
		t.Errorf("Longest(%+v) = %d, %d, want %d, %d", code, n, e, want, err)
	}
}

// checks looks at Check, and that the other calls answer its error beside zero values.
func checks(t *testing.T, code []lang.Instr, err api.Errno, place int) {
	t.Helper()
	if e, at := lang.Check(code); e != err || at != place {
		t.Errorf("Check(%+v) = %d, %d, want %d, %d", code, e, at, err, place)
	}
	text, p := lang.Print(code)
	all, f := lang.Forward(code)
	n, l := lang.Longest(code)
	switch {
	case err == api.OK && (p != err || f != err || l != err && l != api.ErrLoop):
		t.Errorf("%+v: Print %d, Forward %d, Longest %d", code, p, f, l)
	case err != api.OK && (text != "" || all || n != 0 || p != err || f != err || l != err):
		t.Errorf("%+v: Print %q, %d; Forward %v, %d; Longest %d, %d; want %d", code, text, p, all, f, n, l, err)
	}
}

// lines is a text of so many lines that all say the same.
func lines(n int, line string) string { return strings.Repeat(line+"\n", n) }
