package lang_test

import (
	"math"
	"slices"
	"strings"
	"testing"

	"braid/api"
	"braid/fixture"
	"braid/lang"
	"braid/word"
)

var quit = lang.Instr{Code: lang.Quit}

func TestLines(t *testing.T) {
	reads(t, "\n")
	reads(t, "\n\n\n")
	reads(t, "quit", quit)
	reads(t, "quit\n", quit)
	reads(t, "\n\nquit\n\nquit\n\n", quit, quit)
	faulty(t, "\n\nstop", api.ErrWord, 3, 1)
	faulty(t, "quit\nquit\n stop\nquit", api.ErrWord, 3, 2)
	faulty(t, "quit quit", api.ErrExtra, 1, 6)
	faulty(t, "let r1\n7", api.ErrMissing, 1, 7)
}

func TestComments(t *testing.T) {
	reads(t, "#")
	reads(t, "# quit\n#quit")
	reads(t, "quit#", quit)
	reads(t, "quit#x y:", quit)
	reads(t, "quit # x # y", quit)
	reads(t, "x:#quit\nquit", quit)
	reads(t, "let r1 12#34", lang.Instr{Code: lang.Let, Dst: 1, X: fixture.Num(12)})
	reads(t, "quit # up to the line's end\nquit", quit, quit)
	faulty(t, "x#:", api.ErrWord, 1, 1)
	faulty(t, "qu#it", api.ErrWord, 1, 1)
	faulty(t, "let r#1 1", api.ErrOperand, 1, 5)
	faulty(t, "let r1#1 1", api.ErrMissing, 1, 7)
	faulty(t, "get r1 @#1", api.ErrOperand, 1, 8)
	faulty(t, "let r1  \t # 7", api.ErrMissing, 1, 7)
}

func TestBlanks(t *testing.T) {
	let := lang.Instr{Code: lang.Let, Dst: 1, X: fixture.Num(7)}
	reads(t, " \t \n\t\n ")
	reads(t, "  let r1 7  ", let)
	reads(t, "\tlet\tr1\t7\t", let)
	reads(t, " \t let \t r1\t\t  7 \t# x", let)
	reads(t, " x:\ty:  let r1 7", let)
	faulty(t, "\t \tstop", api.ErrWord, 1, 4)
	faulty(t, "let \t r1 \tx", api.ErrOperand, 1, 11)
	faulty(t, "let  r1\t 7 \t8", api.ErrExtra, 1, 13)
	faulty(t, "let r1 \t ", api.ErrMissing, 1, 7)
	faulty(t, "\tx:  y: let", api.ErrMissing, 1, 12)
	faulty(t, "x :", api.ErrWord, 1, 1)
	faulty(t, "get r1 @ 1", api.ErrOperand, 1, 8)
	faulty(t, "let r 1 7", api.ErrOperand, 1, 5)
}

// Every byte but 9, 10, 32 and # is one of a word.
func TestOtherBytes(t *testing.T) {
	for b := range 256 {
		switch b {
		case '\t', '\n', ' ', '#':
			continue
		}
		text := string([]byte{byte(b)})
		faulty(t, text+"quit", api.ErrWord, 1, 1)
		faulty(t, "quit "+text, api.ErrExtra, 1, 6)
		faulty(t, "let "+text+"r1 x", api.ErrOperand, 1, 5)
		if b >= '0' && b <= '9' {
			faulty(t, "drop @"+text+" x", api.ErrExtra, 1, 9)
		} else {
			faulty(t, "drop @"+text+" x", api.ErrOperand, 1, 6)
		}
	}
	faulty(t, "quit\r", api.ErrWord, 1, 1)
	faulty(t, "\rquit", api.ErrWord, 1, 1)
	faulty(t, "quit \r\n", api.ErrExtra, 1, 6)
	faulty(t, "\r\n", api.ErrWord, 1, 1)
	faulty(t, "let r1\r 7", api.ErrOperand, 1, 5)
	faulty(t, "x:\r\nquit", api.ErrWord, 1, 1)
	faulty(t, "quit\vquit", api.ErrWord, 1, 1)
	faulty(t, "quit\x00", api.ErrWord, 1, 1)
	faulty(t, "quit\u00a0", api.ErrWord, 1, 1)
	faulty(t, "quit \u00a0", api.ErrExtra, 1, 6)
	reads(t, "quit # ä \xff\r", quit)
	// a column counts bytes: ä has two, the dash three
	faulty(t, "ä: x", api.ErrWord, 1, 1)
	faulty(t, "goto ä– x", api.ErrOperand, 1, 6)
	faulty(t, "quit # ä\nlet r1 ä", api.ErrOperand, 2, 8)
	faulty(t, "\xff", api.ErrWord, 1, 1)
	faulty(t, "get ä–", api.ErrOperand, 1, 5)
	faulty(t, "quit\x80 x", api.ErrWord, 1, 1)
}

// A missing operand's column is behind the last word's last byte.
func TestMissingBehindLongWords(t *testing.T) {
	faulty(t, "done", api.ErrMissing, 1, 5)
	faulty(t, "if -9223372036854775808   ", api.ErrMissing, 1, 24)
	faulty(t, "x: y: goto # z", api.ErrMissing, 1, 11)
}

func TestLength(t *testing.T) {
	reads(t, strings.Repeat(" ", 4096))
	reads(t, strings.Repeat("\n", 4096))
	reads(t, "quit"+strings.Repeat("\n", 4092), quit)
	faulty(t, strings.Repeat("\n", 4092)+"stop", api.ErrWord, 4093, 1)
	faulty(t, strings.Repeat(" ", 4092)+"stop", api.ErrWord, 1, 4093)
	faulty(t, strings.Repeat("x", 4096), api.ErrWord, 1, 1)
	for _, piece := range []string{" ", "\n", "x", "#", "quit\n", "\xff"} {
		long := strings.Repeat(piece, 4097)
		faulty(t, long[:4097], api.ErrLong, 0, 0)
		faulty(t, long, api.ErrLong, 0, 0)
	}
	faulty(t, "stop"+strings.Repeat("\n", 4093), api.ErrLong, 0, 0)
	faulty(t, strings.Repeat("\n", 4096)+"stop", api.ErrLong, 0, 0)
	faulty(t, strings.Repeat("quit", 1<<18), api.ErrLong, 0, 0)
}

func TestNames(t *testing.T) {
	long := "abcdefghijklmnop"
	jump := lang.Instr{Code: lang.Goto, To: 0}
	for _, name := range []string{"a", "z", "a0", "z9", "a0b1", long, "a123456789012345", "l0", "r1", "r15", "r99", "r"} {
		reads(t, name+": goto "+name, jump)
	}
	for _, name := range strings.Fields("get take put drop let if goto quit done calc " + operators) {
		reads(t, name+": goto "+name, jump)
		reads(t, name+":\n"+name+"x: quit", quit)
	}
	for _, name := range []string{"", "0", "0a", "A", "aA", "a_b", "a-b", "a.b", "@1", "-1", "a:", ":a", "ä", "aä", "a\r", long + "q", "==", "a`", "a{", "a/", "`", "{", "a@", "a["} {
		faulty(t, "x: "+name+": quit", api.ErrWord, 1, 4)
		if name != "" {
			faulty(t, "x: goto "+name, api.ErrOperand, 1, 9)
		}
	}
	faulty(t, "goto x:", api.ErrOperand, 1, 6)
	faulty(t, "goto :", api.ErrOperand, 1, 6)
	faulty(t, "x:y: quit", api.ErrWord, 1, 1)
	faulty(t, "x:quit", api.ErrWord, 1, 1)
	faulty(t, "x: :", api.ErrWord, 1, 4)
	faulty(t, "::", api.ErrWord, 1, 1)
	faulty(t, "x : quit", api.ErrWord, 1, 1)
	// a name's length is looked at alone: the same first 16 bytes make no twin
	faulty(t, long+": "+long+"q: quit", api.ErrWord, 1, 19)
	reads(t, long+": "+long[:15]+": goto "+long[:15], jump)
}

func TestTwice(t *testing.T) {
	faulty(t, "a: b: a:", api.ErrTwice, 1, 7)
	faulty(t, "a:\na:", api.ErrTwice, 2, 1)
	faulty(t, "a: quit\n  b: a: quit", api.ErrTwice, 2, 6)
	faulty(t, "a:\nquit\nquit\na:\n", api.ErrTwice, 4, 1)
	faulty(t, "a: goto a\n a: # twice", api.ErrTwice, 2, 2)
	reads(t, "a: ab: aa: a1: b: quit", quit)
	reads(t, "a: # a:\nquit # a:", quit)
}

func TestPlaces(t *testing.T) {
	jump := func(to int) lang.Instr { return lang.Instr{Code: lang.Goto, To: to} }
	// ahead, behind, at the own place, several at one place, at the end
	reads(t, "goto a\na: quit", jump(1), quit)
	reads(t, "a: quit\ngoto a", quit, jump(0))
	reads(t, "quit\na: goto a", quit, jump(1))
	reads(t, "a:\n\nb: # here\n c: d: quit\ngoto a\ngoto b\ngoto c\ngoto d", quit, jump(0), jump(0), jump(0), jump(0))
	reads(t, "goto a\ngoto b\na: b:", jump(2), jump(2))
	reads(t, "quit\na:\nb: goto a\nc:\n\nd:\ngoto c\ngoto d\ne:\n", quit, jump(1), jump(2), jump(2))
	reads(t, "a: if r1 >= -1 b\ngoto a\nb:", lang.Instr{Code: lang.If, X: fixture.Reg(1), Y: fixture.Num(-1), Rel: word.Ge, To: 2}, jump(0))
	reads(t, "a: b:")
	reads(t, lines(63, "quit")+"goto e\ne:", append(slices.Repeat([]lang.Instr{quit}, 63), jump(64))...)
	// one label may be wanted many times
	reads(t, "x: quit\n"+lines(5, "goto x"), quit, jump(0), jump(0), jump(0), jump(0), jump(0))
}

func TestMany(t *testing.T) {
	reads(t, lines(64, "quit"), slices.Repeat([]lang.Instr{quit}, 64)...)
	faulty(t, lines(64, "quit")+"\n\n a: b: quit", api.ErrMany, 67, 8)
	faulty(t, lines(64, "quit")+"get r99", api.ErrMany, 65, 1)
	faulty(t, lines(64, "quit")+"get", api.ErrMany, 65, 1)
	faulty(t, lines(64, "quit")+"Quit x", api.ErrWord, 65, 1)
	faulty(t, lines(64, "quit")+"a: a: quit", api.ErrTwice, 65, 4)
	faulty(t, lines(64, "quit")+"A: quit", api.ErrWord, 65, 1)
	faulty(t, lines(63, "quit")+"get r1", api.ErrMissing, 64, 7)
	reads(t, lines(64, "quit")+"a:\nb: # quit\n", slices.Repeat([]lang.Instr{quit}, 64)...)
}

func TestRegisters(t *testing.T) {
	for n := range 16 {
		text := "r" + word.Format(int64(n))
		reads(t, "let "+text+" "+text, lang.Instr{Code: lang.Let, Dst: n, X: fixture.Reg(int64(n))})
		reads(t, "get "+text+" @"+text, lang.Instr{Code: lang.Get, Dst: n, Obj: fixture.Reg(int64(n))})
	}
	for _, text := range []string{"r16", "r17", "r99", "r100", "r01", "r00", "r015", "r-1", "r-0", "r+1", "r", "R1", "r1x", "rr1", "r1.", "r٣",
		"r4294967296", "r18446744073709551616", "r9223372036854775808", "r9223372036854775807", "r-9223372036854775808", "r0x1", "r1:", "x1", "@r1"} {
		faulty(t, "let "+text+" 1", api.ErrOperand, 1, 5)
		faulty(t, "let r1 "+text, api.ErrOperand, 1, 8)
		faulty(t, "drop @"+text, api.ErrOperand, 1, 6)
		faulty(t, "if r1 < "+text+" a", api.ErrOperand, 1, 9)
	}
	for _, text := range []string{"0", "15", "-1", "@r1", "@1"} {
		faulty(t, "take "+text+" @1", api.ErrOperand, 1, 6)
		faulty(t, "xor "+text+" 1 1", api.ErrOperand, 1, 5)
	}
}

func TestNumbers(t *testing.T) {
	for _, n := range []int64{0, 1, -1, 9, 10, 15, 16, 17, 1 << 31, -1 << 31, math.MaxInt64, math.MaxInt64 - 1, math.MinInt64, math.MinInt64 + 1} {
		text := word.Format(n)
		reads(t, "done "+text, lang.Instr{Code: lang.Done, X: fixture.Num(n)})
		reads(t, "put @"+text+" "+text, lang.Instr{Code: lang.Put, Obj: fixture.Num(n), X: fixture.Num(n)})
		reads(t, "if "+text+" != "+text+" a\na:", lang.Instr{Code: lang.If, X: fixture.Num(n), Y: fixture.Num(n), Rel: word.Ne, To: 1})
		reads(t, "shl r3 "+text+" "+text, lang.Instr{Code: lang.Calc, Dst: 3, X: fixture.Num(n), Y: fixture.Num(n), Op: word.Shl})
	}
	for _, text := range []string{"9223372036854775808", "-9223372036854775809", "99999999999999999999999", "-99999999999999999999999", "00", "01", "-0", "-01", "+1", "-", "--1", "1x", "x", "1.0", "1e3", "0x10", "1_0", "٣", "1:", "1\r"} {
		faulty(t, "done "+text, api.ErrOperand, 1, 6)
		faulty(t, "put @1 "+text, api.ErrOperand, 1, 8)
		faulty(t, "put @"+text+" 1", api.ErrOperand, 1, 5)
		faulty(t, "if 1 < "+text+" a", api.ErrOperand, 1, 8)
		faulty(t, "if "+text+" < 1 a", api.ErrOperand, 1, 4)
		faulty(t, "rem r1 "+text+" 1", api.ErrOperand, 1, 8)
		faulty(t, "rem r1 1 "+text, api.ErrOperand, 1, 10)
	}
}

func TestObjects(t *testing.T) {
	for text, obj := range map[string]lang.Operand{"@3": fixture.Num(3), "@r3": fixture.Reg(3), "@-1": fixture.Num(-1), "@0": fixture.Num(0), "@r0": fixture.Reg(0), "@r15": fixture.Reg(15), "@80": fixture.Num(80), "@16": fixture.Num(16)} {
		reads(t, "get r2 "+text, lang.Instr{Code: lang.Get, Dst: 2, Obj: obj})
		reads(t, "take r2 "+text, lang.Instr{Code: lang.Take, Dst: 2, Obj: obj})
		reads(t, "put "+text+" r9", lang.Instr{Code: lang.Put, Obj: obj, X: fixture.Reg(9)})
		reads(t, "drop "+text, lang.Instr{Code: lang.Drop, Obj: obj})
	}
	for _, text := range []string{"@", "@@1", "@@", "3", "r3", "-1", "@r16", "@r01", "@r", "@x", "@-", "@-0", "@03", "@+3", "@3:", "@3x", "x@3", "@R3", "3@"} {
		faulty(t, "get r2 "+text, api.ErrOperand, 1, 8)
		faulty(t, "take r2 "+text, api.ErrOperand, 1, 9)
		faulty(t, "put "+text+" r9", api.ErrOperand, 1, 5)
		faulty(t, "drop "+text, api.ErrOperand, 1, 6)
	}
}

func TestRelations(t *testing.T) {
	for i, name := range strings.Fields(relations) {
		reads(t, "if r1 "+name+" 2 a\na:", lang.Instr{Code: lang.If, X: fixture.Reg(1), Y: fixture.Num(2), Rel: word.Eq + word.Rel(i), To: 1})
	}
	for _, text := range []string{"=", "===", "=<", "=>", "<>", "!", "<<", "eq", "lt", "1", "r1", "@1", "==:", ":", "add"} {
		faulty(t, "if r1 "+text+" 2 a", api.ErrOperand, 1, 7)
	}
	faulty(t, "if r1 < = 2 a", api.ErrOperand, 1, 9)
}

func TestOperators(t *testing.T) {
	for i, name := range strings.Fields(operators) {
		reads(t, name+" r4 r5 -6", lang.Instr{Code: lang.Calc, Dst: 4, X: fixture.Reg(5), Y: fixture.Num(-6), Op: word.Add + word.Op(i)})
	}
	for _, name := range []string{"Add", "ADD", "calc", "neg", "not", "mod", "adda", "ad", "+"} {
		faulty(t, name+" r4 r5 -6", api.ErrWord, 1, 1)
	}
}

func TestWords(t *testing.T) {
	for _, name := range []string{"Get", "GET", "gets", "ge", "read", "set", "release", "stop", "jump", "r1", "@1", "1", "==", "-", "quit;", "quit,", "\"quit\"", "x", "0"} {
		faulty(t, name, api.ErrWord, 1, 1)
		faulty(t, "quit\n x: "+name+" r1 @1", api.ErrWord, 2, 5)
	}
}

// good and bad are words that are operands of a kind, and such that are none.
var good = map[string][]string{
	"rD":    {"r0", "r15"},
	"OBJ":   {"@3", "@r3", "@-1"},
	"SRC":   {"r0", "r15", "0", "-9223372036854775808"},
	"REL":   strings.Fields(relations),
	"LABEL": {"a", "r1", "quit", "abcdefghijklmnop"},
}

var bad = map[string][]string{
	"rD":    {"r16", "r01", "1", "@r1", "==", "a", "a:"},
	"OBJ":   {"@", "@r16", "@x", "3", "r3", "==", "a", "a:", "@9223372036854775808"},
	"SRC":   {"r16", "r01", "@1", "==", "a", "a:", "9223372036854775808", "-9223372036854775809"},
	"REL":   {"=", "r1", "1", "@1", "a", "==:"},
	"LABEL": {"A", "1", "@1", "==", "a:", "-1", "abcdefghijklmnopq"},
}

// Each operand of each instruction missing, wrong and one too many, with all that stands ahead of it good.
func TestEachOperand(t *testing.T) {
	const labels = "a: r1: quit: abcdefghijklmnop: "
	for _, c := range codes {
		words := strings.Fields(c.form)
		head := labels + words[0]
		for _, kind := range words[1:] {
			faulty(t, head, api.ErrMissing, 1, len(head)+1)
			faulty(t, head+" \t", api.ErrMissing, 1, len(head)+1)
			faulty(t, head+"#"+good[kind][0], api.ErrMissing, 1, len(head)+1)
			for _, text := range bad[kind] {
				faulty(t, head+" "+text, api.ErrOperand, 1, len(head)+2)
				faulty(t, head+" "+text+" x x x x x", api.ErrOperand, 1, len(head)+2)
			}
			for _, text := range good[kind][1:] {
				if code, f := lang.Parse(head + " " + text); f.Err != api.OK && (f.Err != api.ErrMissing || f.Col != len(head)+len(text)+2) {
					t.Errorf("%q %q: %+v, %+v", head, text, code, f)
				}
			}
			head += " " + good[kind][0]
		}
		if code := fixture.Program(t, head); len(code) != 1 || code[0].Code != c.code {
			t.Errorf("%q: %+v", head, code)
		}
		for _, text := range []string{"x", "x:", "r1", "1", ":", "\r", "quit", "-"} {
			faulty(t, head+"\t "+text+" y", api.ErrExtra, 1, len(head)+3)
		}
		fixture.Program(t, head+" # x")
	}
}

// The fields that a code does not use are zero: its operands are all other than zero here.
func TestFields(t *testing.T) {
	text := "x: get r1 @r2\ntake r3 @4\nput @r5 -6\ndrop @7\nlet r8 r9\nmax r10 -11 r12\nif r13 <= 14 e\ngoto e\nquit\ndone r15\ne:"
	reads(t, text,
		lang.Instr{Code: lang.Get, Dst: 1, Obj: fixture.Reg(2)},
		lang.Instr{Code: lang.Take, Dst: 3, Obj: fixture.Num(4)},
		lang.Instr{Code: lang.Put, Obj: fixture.Reg(5), X: fixture.Num(-6)},
		lang.Instr{Code: lang.Drop, Obj: fixture.Num(7)},
		lang.Instr{Code: lang.Let, Dst: 8, X: fixture.Reg(9)},
		lang.Instr{Code: lang.Calc, Dst: 10, X: fixture.Num(-11), Y: fixture.Reg(12), Op: word.Max},
		lang.Instr{Code: lang.If, X: fixture.Reg(13), Y: fixture.Num(14), Rel: word.Le, To: 10},
		lang.Instr{Code: lang.Goto, To: 10},
		lang.Instr{Code: lang.Quit},
		lang.Instr{Code: lang.Done, X: fixture.Reg(15)})
}

// Of two faults in one text the upper one is told, in a line the left one, and an unknown label behind all others.
func TestOrderOfFaults(t *testing.T) {
	type fault struct {
		line string
		e    api.Errno
		col  int
	}
	faults := []fault{
		{"X:", api.ErrWord, 1},
		{" stop", api.ErrWord, 2},
		{"y: y:", api.ErrTwice, 4},
		{"get", api.ErrMissing, 4},
		{"let r1 r16", api.ErrOperand, 8},
		{"quit x", api.ErrExtra, 6},
	}
	for i, upper := range faults {
		for j, lower := range faults {
			if i == j {
				continue
			}
			faulty(t, "quit\n"+upper.line+"\n\n"+lower.line, upper.e, 2, upper.col)
			faulty(t, "goto nowhere\n"+upper.line+"\n"+lower.line, upper.e, 2, upper.col)
		}
		faulty(t, "goto nowhere\n"+upper.line, upper.e, 2, upper.col)
		faulty(t, upper.line+"\ngoto nowhere", upper.e, 1, upper.col)
		faulty(t, upper.line+strings.Repeat(" ", 4096), api.ErrLong, 0, 0)
		faulty(t, lines(64, "quit")+"quit\n"+upper.line, api.ErrMany, 65, 1)
		faulty(t, upper.line+"\n"+lines(65, "quit"), upper.e, 1, upper.col)
	}
	// within a line
	faulty(t, "X: stop", api.ErrWord, 1, 1)
	faulty(t, "a: X: a: stop", api.ErrWord, 1, 4)
	faulty(t, "a: a: X: stop", api.ErrTwice, 1, 4)
	faulty(t, "a: a: stop", api.ErrTwice, 1, 4)
	faulty(t, "stop a: a:", api.ErrWord, 1, 1)
	faulty(t, "get r16", api.ErrOperand, 1, 5)
	faulty(t, "get r16 @x y", api.ErrOperand, 1, 5)
	faulty(t, "get r1 @x y", api.ErrOperand, 1, 8)
	faulty(t, "if 1 = 2 a b", api.ErrOperand, 1, 6)
	faulty(t, "goto A b", api.ErrOperand, 1, 6)
	faulty(t, "goto a b", api.ErrExtra, 1, 8)
	faulty(t, "quit a: a:", api.ErrExtra, 1, 6)
	faulty(t, "goto a b\ngoto a", api.ErrExtra, 1, 8)
}

func TestUnknownLabels(t *testing.T) {
	faulty(t, "goto a", api.ErrLabel, 1, 6)
	faulty(t, "if r0 == 1 a", api.ErrLabel, 1, 12)
	faulty(t, "\n b: \tgoto  a # a:", api.ErrLabel, 2, 12)
	faulty(t, "goto b\ngoto a\ngoto c\na: b:", api.ErrLabel, 3, 6)
	faulty(t, "b: goto b\ngoto ab\na:", api.ErrLabel, 2, 6)
	faulty(t, "goto a\ngoto b\nb:", api.ErrLabel, 1, 6)
	faulty(t, "goto c\na: goto b\nb: goto a", api.ErrLabel, 1, 6)
	faulty(t, "goto l0\ngoto l1\nl1:", api.ErrLabel, 1, 6)
	faulty(t, lines(63, "quit")+"goto a", api.ErrLabel, 64, 6)
	faulty(t, "goto goto", api.ErrLabel, 1, 6)
	faulty(t, "goto r1\nget r1 @r1", api.ErrLabel, 1, 6)
}
