package lang_test

import (
	"math"
	"slices"
	"strings"
	"testing"

	"braid/api"
	"braid/fixture"
	"braid/lang"
	"braid/word"
)

// usual is an instruction of each code whose used fields are all other than zero, where the code has such fields.
var usual = []lang.Instr{
	{Code: lang.Get, Dst: 1, Obj: fixture.Reg(2)},
	{Code: lang.Take, Dst: 3, Obj: fixture.Num(4)},
	{Code: lang.Put, Obj: fixture.Reg(5), X: fixture.Num(-6)},
	{Code: lang.Drop, Obj: fixture.Num(7)},
	{Code: lang.Let, Dst: 8, X: fixture.Reg(9)},
	{Code: lang.Calc, Dst: 10, X: fixture.Num(-11), Y: fixture.Reg(12), Op: word.Max},
	{Code: lang.If, X: fixture.Reg(13), Y: fixture.Num(14), Rel: word.Le, To: 1},
	{Code: lang.Goto, To: 1},
	{Code: lang.Quit},
	{Code: lang.Done, X: fixture.Reg(15)},
}

// alone looks whether an instruction can be, at the last place of programs of one and of three instructions.
func alone(t *testing.T, in lang.Instr, want bool) {
	t.Helper()
	for _, ahead := range []int{0, 2} {
		code := append(slices.Repeat([]lang.Instr{quit}, ahead), in)
		if want {
			checks(t, code, api.OK, 0)
		} else {
			checks(t, code, api.ErrCode, ahead)
		}
	}
}

func TestCodes(t *testing.T) {
	for i, in := range usual {
		if in.Code != lang.Code(i+1) {
			t.Fatalf("%+v is the %d.", in, i+1)
		}
		alone(t, in, true)
	}
	for _, code := range append(far, 0, 11, 12) {
		alone(t, lang.Instr{Code: lang.Code(code)}, false)
	}
}

// users are the codes that use a field, as the comments of the type tell them.
var users = map[string][]lang.Code{
	"Dst": {lang.Get, lang.Take, lang.Let, lang.Calc},
	"Obj": {lang.Get, lang.Take, lang.Put, lang.Drop},
	"X":   {lang.Put, lang.Let, lang.Calc, lang.If, lang.Done},
	"Y":   {lang.Calc, lang.If},
	"Op":  {lang.Calc},
	"Rel": {lang.If},
	"To":  {lang.If, lang.Goto},
}

func uses(code lang.Code, field string) bool { return slices.Contains(users[field], code) }

// whole are numbers at all bounds and beyond them.
var whole = append([]int{0, 1, 2, 3, 5, 6, 7, 11, 12, 13, 14, 15, 16, 17, 63, 64}, far...)

func TestDst(t *testing.T) {
	for _, in := range usual {
		for _, n := range whole {
			in.Dst = n
			alone(t, in, n == 0 || uses(in.Code, "Dst") && n > 0 && n <= 15)
		}
	}
}

func TestOp(t *testing.T) {
	for _, in := range usual {
		for _, n := range whole {
			in.Op = word.Op(n)
			alone(t, in, uses(in.Code, "Op") && n >= 1 && n <= 12 || !uses(in.Code, "Op") && n == 0)
		}
	}
}

func TestRel(t *testing.T) {
	for _, in := range usual {
		for _, n := range whole {
			in.Rel = word.Rel(n)
			alone(t, in, uses(in.Code, "Rel") && n >= 1 && n <= 6 || !uses(in.Code, "Rel") && n == 0)
		}
	}
}

func TestTo(t *testing.T) {
	for _, in := range usual {
		for _, size := range []int{1, 2, 3, 7, 63, 64} {
			for _, n := range append(slices.Clone(whole), size-1, size, size+1) {
				in.To = n
				place := n & 0xff % size
				code := slices.Repeat([]lang.Instr{quit}, size)
				code[place] = in
				if n == 0 || uses(in.Code, "To") && n > 0 && n <= size {
					checks(t, code, api.OK, 0)
				} else {
					checks(t, code, api.ErrCode, place)
				}
			}
		}
	}
}

func TestOperands(t *testing.T) {
	fields := map[string]func(in *lang.Instr) *lang.Operand{
		"Obj": func(in *lang.Instr) *lang.Operand { return &in.Obj },
		"X":   func(in *lang.Instr) *lang.Operand { return &in.X },
		"Y":   func(in *lang.Instr) *lang.Operand { return &in.Y },
	}
	for name, field := range fields {
		for _, in := range usual {
			used := uses(in.Code, name)
			for _, n := range append([]int{math.MinInt64, math.MaxInt64}, whole...) {
				*field(&in) = fixture.Reg(int64(n))
				alone(t, in, used && n >= 0 && n <= 15)
				*field(&in) = fixture.Num(int64(n))
				alone(t, in, used || n == 0)
			}
		}
	}
}

func TestCheckFirst(t *testing.T) {
	wrong := lang.Instr{Code: lang.Quit, Dst: 1}
	for first := range 64 {
		code := slices.Repeat([]lang.Instr{quit}, 64)
		code[first] = wrong
		checks(t, code, api.ErrCode, first)
		code[63] = wrong
		checks(t, code, api.ErrCode, first)
	}
	checks(t, nil, api.OK, 0)
	checks(t, []lang.Instr{}, api.OK, 0)
	for _, n := range []int{65, 66, 128, 5000} {
		checks(t, slices.Repeat([]lang.Instr{quit}, n), api.ErrMany, 0)
		checks(t, slices.Repeat([]lang.Instr{wrong}, n), api.ErrMany, 0)
		checks(t, append(slices.Repeat([]lang.Instr{quit}, n-1), wrong), api.ErrMany, 0)
	}
	checks(t, slices.Repeat([]lang.Instr{quit}, 64), api.OK, 0)
}

func TestPrintCodes(t *testing.T) {
	text := "get r1 @r2\ntake r3 @4\nput @r5 -6\ndrop @7\nlet r8 r9\nmax r10 -11 r12\nif r13 <= 14 l0\ngoto l0\nquit\ndone r15\n"
	code := slices.Clone(usual)
	code[6].To, code[7].To = 10, 10
	prints(t, code, text+"l0:\n")
	reads(t, text+"l0:\n", code...)
	code[6].To, code[7].To = 0, 10
	prints(t, code, "l0:\n"+strings.Replace(text, "goto l0", "goto l1", 1)+"l1:\n")
	// zero operands are told, too
	zero := []lang.Instr{{Code: lang.Get}, {Code: lang.Take}, {Code: lang.Put}, {Code: lang.Drop}, {Code: lang.Let}, {Code: lang.Calc, Op: word.Add}, {Code: lang.If, Rel: word.Eq}, {Code: lang.Goto}, {Code: lang.Quit}, {Code: lang.Done}}
	text = "l0:\nget r0 @0\ntake r0 @0\nput @0 0\ndrop @0\nlet r0 0\nadd r0 0 0\nif 0 == 0 l0\ngoto l0\nquit\ndone 0\n"
	prints(t, zero, text)
	reads(t, text, zero...)
}

func TestPrintNames(t *testing.T) {
	var code []lang.Instr
	var text strings.Builder
	for i, name := range strings.Fields(operators) {
		code = append(code, lang.Instr{Code: lang.Calc, Dst: i, X: fixture.Reg(int64(15 - i)), Y: fixture.Num(int64(i)), Op: word.Op(i + 1)})
		text.WriteString(name + " r" + word.Format(int64(i)) + " r" + word.Format(int64(15-i)) + " " + word.Format(int64(i)) + "\n")
	}
	for i, name := range strings.Fields(relations) {
		code = append(code, lang.Instr{Code: lang.If, X: fixture.Num(math.MinInt64), Y: fixture.Num(math.MaxInt64), Rel: word.Rel(i + 1), To: 18})
		text.WriteString("if -9223372036854775808 " + name + " 9223372036854775807 l0\n")
	}
	prints(t, code, text.String()+"l0:\n")
	reads(t, text.String()+"l0:\n", code...)
}

func TestPrintLabels(t *testing.T) {
	jump := func(to int) lang.Instr { return lang.Instr{Code: lang.Goto, To: to} }
	prints(t, nil, "")
	prints(t, []lang.Instr{jump(1)}, "goto l0\nl0:\n")
	prints(t, []lang.Instr{jump(0)}, "l0:\ngoto l0\n")
	// the numbers go by the places, not by the jumps
	prints(t, []lang.Instr{jump(3), jump(2), jump(0), jump(2)}, "l0:\ngoto l2\ngoto l1\nl1:\ngoto l0\nl2:\ngoto l1\n")
	// a place that is jumped to from anywhere, whether that can be reached or not, has one label
	prints(t, []lang.Instr{quit, jump(2), quit, jump(2)}, "quit\ngoto l0\nl0:\nquit\ngoto l0\n")
	// more than ten labels: the eleventh is l10
	var code []lang.Instr
	var text strings.Builder
	for place := range 64 {
		code = append(code, jump(63-place))
		text.WriteString("l" + word.Format(int64(place)) + ":\ngoto l" + word.Format(int64(63-place)) + "\n")
	}
	prints(t, code, text.String())
	reads(t, text.String(), code...)
}

// The longest texts that there are keep to MaxText, and are read again.
func TestPrintFits(t *testing.T) {
	least := fixture.Num(math.MinInt64)
	for _, in := range []lang.Instr{{Code: lang.If, X: least, Y: least, Rel: word.Ge}, {Code: lang.Calc, Dst: 15, X: least, Y: least, Op: word.Xor}} {
		code := slices.Repeat([]lang.Instr{in}, 64)
		for place := range code {
			if in.Code == lang.If {
				code[place].To = place + 1
			}
		}
		text, e := lang.Print(code)
		if e != api.OK || len(text) > lang.MaxText {
			t.Errorf("Print: %d bytes, %d", len(text), e)
		}
		reads(t, text, code...)
	}
}

func TestForward(t *testing.T) {
	for text, want := range map[string]bool{
		"":                           true,
		"quit":                       true,
		"goto a\na:":                 true,
		"a: goto a":                  false, // its own place
		"a: if 0 != 0 a":             false,
		"quit\na: goto a":            false, // not to be reached
		"a: quit\ngoto a":            false,
		"a: quit\nif r0 == 0 a":      false,
		"goto b\na: quit\nb: goto a": false,
		"if r0 < 1 a\nquit\na: quit": true,
		"if r0 < 1 a\na: quit":       true, // the next place
		"if r0 < 1 a\ngoto a\na:":    true,
		"quit\nquit\ngoto e\ne:":     true,
		"let r1 1\nlet r1 2\ndone 0": true,
		"goto a\na: goto b\nb: goto c\nc: quit\ngoto d\nd:": true,
		"goto a\na: goto b\nb: goto c\nc: d: quit\ngoto d":  false,
	} {
		forward(t, fixture.Program(t, text), want)
	}
	// every place of a jump against every place that it goes to
	for place := range 64 {
		for to := range 65 {
			code := slices.Repeat([]lang.Instr{quit}, 64)
			code[place] = lang.Instr{Code: lang.If, Rel: word.Eq, To: to}
			forward(t, code, to > place)
			code[place] = lang.Instr{Code: lang.Goto, To: to}
			forward(t, code, to > place)
		}
	}
	// the other codes have a To of 0, which is no jump back
	for _, in := range usual {
		if !uses(in.Code, "To") {
			forward(t, []lang.Instr{quit, in}, true)
		}
	}
}

func TestLongest(t *testing.T) {
	for text, want := range map[string]int{
		"":                           0,
		"a: b:":                      0,
		"quit":                       1,
		"let r1 1":                   1,
		"let r1 1\nlet r1 2":         2,
		"quit\nquit":                 1,
		"done 1\nlet r1 1\nlet r1 1": 1,
		"goto e\nlet r1 1\ne:":       1,
		"goto e\nlet r1 1\ne: quit":  2,
		// both ways of an If, though its relation holds always or never
		"if 0 == 0 e\nlet r1 1\ne:":                 1 + 1,
		"if 0 == 1 a\nquit\na: let r1 1\nlet r1 2":  3,
		"if 0 == 1 a\nlet r1 1\nlet r1 2\nquit\na:": 4,
		"if 0 == 1 a\na: quit":                      2,
		"if 0 == 1 e\ne:":                           1,
		// walks that part and join: the longer of two ways, once ahead and once behind
		"if r1 < 1 a\nlet r1 1\nlet r1 2\ngoto j\na: let r2 1\nj: done 0":                   5,
		"if r1 < 1 a\ngoto j\na: let r2 1\nlet r2 2\nlet r2 3\nj: done 0":                   5,
		"if 1 < 1 a\nif 1 < 1 b\nlet r1 1\na: let r1 2\nb: if 1 < 1 c\nlet r1 3\nc: done 0": 7,
		// jumps back that make no circle
		"goto b\na: goto c\nb: goto a\nc:":                    3,
		"goto b\na: done 1\nb: let r1 1\ngoto a":              4,
		"goto b\na: done 1\nb: if r1 < 1 a\nquit":             3,
		"goto c\nb: goto d\nc: if 1 < 1 b\nlet r1 1\nd: quit": 4,
		// circles that no walk comes to
		"done 0\na: goto a":                               1,
		"done 0\na: if 1 < 1 a":                           1,
		"quit\na: let r1 1\ngoto a":                       1,
		"goto e\na: let r1 1\ngoto a\ne:":                 1,
		"goto e\na: let r1 1\nb: goto a\ne: let r1 1":     2,
		"if 1 < 1 e\nquit\na: goto b\nb: goto a\ne: quit": 2,
	} {
		longest(t, fixture.Program(t, text), want, api.OK)
	}
}

func TestLoops(t *testing.T) {
	for _, text := range []string{
		"a: goto a",
		"a: if 0 != 0 a",
		"a: if 0 != 0 a\nquit",
		"let r1 1\na: goto a",
		"a: let r1 1\ngoto a",
		"a: let r1 1\nif 0 == 1 a\ndone 0",
		"goto b\na: goto b\nb: goto a",
		"if 0 == 1 a\ndone 0\na: b: let r1 1\ngoto b", // by the one way alone
		"if 0 == 1 e\na: goto a\ne: done 0",
		"if 0 == 1 e\nlet r1 1\nlet r1 2\ne: let r1 3\na: if 1 < 1 a",
		"x: get r1 @1\ntake r1 @1\nput @1 1\ndrop @1\nlet r1 1\nadd r1 1 1\ngoto x",
		"goto c\na: goto b\nb: goto a\nc: if 1 < 1 d\nquit\nd: if 1 < 1 b\nquit",
	} {
		longest(t, fixture.Program(t, text), 0, api.ErrLoop)
	}
}

// Ways that part sixty times: the walks are too many to be gone through one by one.
func TestLongestOfManyWalks(t *testing.T) {
	var code []lang.Instr
	for place := 0; place < 63; place++ {
		code = append(code, lang.Instr{Code: lang.If, Rel: word.Eq, To: min(place+2, 64)})
	}
	code = append(code, lang.Instr{Code: lang.Done})
	longest(t, code, 64, api.OK)
	code[63] = lang.Instr{Code: lang.Goto, To: 63}
	longest(t, code, 0, api.ErrLoop)
	code[63] = lang.Instr{Code: lang.Goto, To: 0}
	longest(t, code, 0, api.ErrLoop)
	longest(t, slices.Repeat([]lang.Instr{{Code: lang.Let}}, 64), 64, api.OK)
}

// Behind each code: how far a walk goes that has a jump of that code, and one place behind it.
func TestWhereWalksGoOn(t *testing.T) {
	for _, in := range usual {
		want := 3
		if in.Code == lang.Quit || in.Code == lang.Done {
			want = 1
		}
		if uses(in.Code, "To") {
			in.To = 2
		}
		if in.Code == lang.Goto {
			want = 2
		}
		longest(t, []lang.Instr{in, {Code: lang.Let}, {Code: lang.Quit}}, want, api.OK)
	}
}
