package lang_test

import (
	"math"
	"slices"
	"strings"
	"testing"

	"braid/api"
	"braid/fixture"
	"braid/lang"
	"braid/word"
)

// sameText looks at a text beside the plain reader, and at its program beside the plain calls.
func sameText(t *testing.T, text string) lang.Fault {
	t.Helper()
	code, f := lang.Parse(text)
	want, g := plainParse(text)
	if f != g || !slices.Equal(code, want) || f.Err != api.OK && code != nil {
		t.Fatalf("Parse(%q) = %+v, %+v, want %+v, %+v", text, code, f, want, g)
	}
	if f.Err == api.OK {
		if e, _ := lang.Check(code); e != api.OK {
			t.Fatalf("Check of %q: %d", text, e)
		}
		sameCode(t, code)
	}
	return f
}

// sameCode looks at a list beside the plain calls, and tells what Check and Longest say.
func sameCode(t *testing.T, code []lang.Instr) (check, walk api.Errno) {
	t.Helper()
	e, place := plainCheck(code)
	if e != api.OK {
		checks(t, code, e, place)
		return e, api.OK
	}
	checks(t, code, api.OK, 0)
	text := plainPrint(code)
	prints(t, code, text)
	if again, f := lang.Parse(text); f != (lang.Fault{}) || !slices.Equal(again, code) {
		t.Fatalf("Parse of Print(%+v): %+v, %+v", code, again, f)
	}
	forward(t, code, plainForward(code))
	n, w := plainLongest(code)
	longest(t, code, n, w)
	if t.Failed() {
		t.FailNow()
	}
	return api.OK, w
}

// thrownLine is a line with a fault now and then.
func thrownLine(d *fixture.Dice) string {
	gap := func() string { return fixture.Pick(d, " ", " ", " ", "  ", "\t", " \t") }
	line := fixture.Pick(d, "", "", "", " ", "\t")
	for d.Below(4) == 0 {
		line += fixture.Pick(d, "a", "b", "c", "d1", "r1", "quit", "abcdefghijklmnop", "e", "f", "g", "h", "i", "X", "", "abcdefghijklmnopq") + ":" + gap()
	}
	if d.Below(8) == 0 {
		return line + fixture.Pick(d, "", "#", "# x", "#x:")
	}
	form := strings.Fields(fixture.Pick(d, codes...).form)
	if form[0] == "add" {
		form[0] = fixture.Pick(d, strings.Fields(operators)...)
	}
	for k, kind := range form[1:] {
		form[k+1] = fixture.Pick(d, good[kind]...)
		if kind == "LABEL" {
			form[k+1] = fixture.Pick(d, "a", "b", "c", "d1", "r1")
		}
		if d.Below(60) == 0 {
			form[k+1] = fixture.Pick(d, bad[kind]...)
		}
	}
	switch d.Below(60) {
	case 0:
		form[0] = fixture.Pick(d, "stop", "Get", "r1", "1", "==", "calc", "ä", "x\r")
	case 1:
		form = form[:len(form)-1]
	case 2:
		form = append(form, fixture.Pick(d, "x", "x:", "1", "\r"))
	}
	for _, text := range form {
		line += text + gap()
	}
	return line + fixture.Pick(d, "", "", "# x", "#")
}

// Texts thrown together, with the first faults counted: each of them has been.
func TestThrownTexts(t *testing.T) {
	d := fixture.NewDice()
	seen := map[api.Errno]int{}
	for range 6000 {
		var text []string
		if d.Below(3) > 0 {
			text = append(text, "a:", "b: c:")
		}
		for range d.Below(fixture.Pick(&d, 4, 12)) {
			text = append(text, thrownLine(&d))
		}
		if d.Below(2) == 0 {
			text = append(text, "d1: r1:")
		}
		seen[sameText(t, strings.Join(text, "\n")).Err]++
	}
	for range 200 {
		text := lines(60+d.Below(5), "quit")
		for range 6 {
			text += thrownLine(&d) + "\n"
		}
		seen[sameText(t, text+"a: b: c: d1: r1:").Err]++
	}
	for _, e := range []api.Errno{api.OK, api.ErrWord, api.ErrMissing, api.ErrOperand, api.ErrExtra, api.ErrTwice, api.ErrMany, api.ErrLabel} {
		if seen[e] < 20 {
			t.Errorf("error %d was seen %d times", e, seen[e])
		}
	}
}

// Every byte at every kind of place in a line.
func TestEveryByte(t *testing.T) {
	for b := range 256 {
		c := string([]byte{byte(b)})
		for _, text := range []string{c, c + c, c + ":", "a" + c + ":", "a:" + c, "quit" + c, "qui" + c, c + "quit", "quit " + c, "a: goto " + c, "a: goto a" + c,
			"let " + c + "1 1", "let r" + c + " 1", "let r1" + c + " 1", "let r1 " + c, "let r1 -" + c, "let r1 1" + c, "let r1" + c + "1", "drop " + c + "1", "drop @" + c, "drop @r" + c, "drop @1" + c,
			"a: if r1 " + c + " 1 a", "a: if r1 " + c + "= 1 a", "a: if r1 <" + c + " 1 a", "quit" + c + "quit", "a:\n" + c + "\nquit x"} {
			sameText(t, text)
		}
	}
}

// A good text with some of its bytes changed, taken out or doubled.
func TestSpoiltTexts(t *testing.T) {
	d := fixture.NewDice()
	text := "a: get r1 @0\nb: take r15 @r3 # x\nput @-1 -9\ndrop @r0\nlet r2 12\nshr r4 r5 6\nif r1 >= 0 a\ngoto b\nquit\ndone r7\n"
	seen := map[api.Errno]int{}
	for range 4000 {
		spoilt := text
		for range 1 + d.Below(3) {
			at := d.Below(len(spoilt))
			c := fixture.Pick(&d, spoilt[at:at+1], spoilt[d.Below(len(spoilt)):][:1], " ", "\n", "\t", "#", ":", "r", "@", "0", "-", "a", "\r", "\x80")
			spoilt = spoilt[:at] + fixture.Pick(&d, "", c, c+c) + spoilt[at+d.Below(2):]
		}
		seen[sameText(t, spoilt).Err]++
	}
	for _, e := range []api.Errno{api.OK, api.ErrWord, api.ErrMissing, api.ErrOperand, api.ErrExtra, api.ErrLabel} {
		if seen[e] < 10 {
			t.Errorf("error %d was seen %d times", e, seen[e])
		}
	}
}

// thrownCode is a program of so many instructions, jumps the most of them if they are to be.
func thrownCode(d *fixture.Dice, size, jumps int) []lang.Instr {
	operand := func() lang.Operand {
		return fixture.Pick(d, fixture.Reg(int64(d.Below(16))), fixture.Num(int64(d.Below(40)-20)), fixture.Num(math.MinInt64), fixture.Num(math.MaxInt64))
	}
	var code []lang.Instr
	for place := range size {
		in := lang.Instr{Code: lang.Code(1 + d.Below(10))}
		if d.Below(10) < jumps {
			in.Code = fixture.Pick(d, lang.If, lang.If, lang.Goto)
		}
		if uses(in.Code, "Dst") {
			in.Dst = d.Below(16)
		}
		if uses(in.Code, "Obj") {
			in.Obj = operand()
		}
		if uses(in.Code, "X") {
			in.X = operand()
		}
		if uses(in.Code, "Y") {
			in.Y = operand()
		}
		if uses(in.Code, "Op") {
			in.Op = word.Op(1 + d.Below(12))
		}
		if uses(in.Code, "Rel") {
			in.Rel = word.Rel(1 + d.Below(6))
		}
		if uses(in.Code, "To") {
			in.To = fixture.Pick(d, d.Below(size+1), min(size, place+1+d.Below(3)), min(size, place+1+d.Below(3)), size)
		}
		code = append(code, in)
	}
	return code
}

// spoilField changes one field of an instruction, which it may be in its bounds behind that as well.
func spoilField(d *fixture.Dice, in *lang.Instr) {
	n := fixture.Pick(d, -1, 0, 1, 2, 6, 7, 12, 13, 15, 16, 64, math.MinInt, math.MaxInt)
	o := lang.Operand{Reg: d.Below(2) == 0, Num: int64(n)}
	switch d.Below(8) {
	case 0:
		in.Code = lang.Code(n)
	case 1:
		in.Dst = n
	case 2:
		in.Obj = o
	case 3:
		in.X = o
	case 4:
		in.Y = o
	case 5:
		in.Op = word.Op(n)
	case 6:
		in.Rel = word.Rel(n)
	case 7:
		in.To = n
	}
}

func TestThrownPrograms(t *testing.T) {
	d := fixture.NewDice()
	seen := map[api.Errno]int{}
	for range 3000 {
		code := thrownCode(&d, d.Below(fixture.Pick(&d, 4, 8, 16, 65)), d.Below(8))
		_, walk := sameCode(t, code)
		seen[walk]++
		if len(code) == 0 {
			continue
		}
		for range 1 + d.Below(2) {
			spoilField(&d, &code[d.Below(len(code))])
		}
		check, _ := sameCode(t, code)
		seen[check]++
	}
	for _, e := range []api.Errno{api.OK, api.ErrLoop, api.ErrCode} {
		if seen[e] < 300 {
			t.Errorf("error %d was seen %d times", e, seen[e])
		}
	}
}

// All programs of four jumps or ends: walks of every shape.
func TestAllSmallWalks(t *testing.T) {
	const size = 4
	var shapes []lang.Instr
	for to := range size + 1 {
		shapes = append(shapes, lang.Instr{Code: lang.Goto, To: to}, lang.Instr{Code: lang.If, Rel: word.Lt, To: to})
	}
	shapes = append(shapes, lang.Instr{Code: lang.Let}, lang.Instr{Code: lang.Done})
	n := len(shapes)
	for i := range n * n * n * n {
		code := []lang.Instr{shapes[i%n], shapes[i/n%n], shapes[i/n/n%n], shapes[i/n/n/n]}
		forward(t, code, plainForward(code))
		length, e := plainLongest(code)
		longest(t, code, length, e)
		if t.Failed() {
			return
		}
	}
}
