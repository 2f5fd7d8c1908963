package compile_test

import (
	"strings"
	"testing"
)

// Each statement, with temporaries from 0 on.
func TestStatements(t *testing.T) {
	becomes(t, "abort;", "quit")
	becomes(t, "x := x;", "let r0 r0")
	becomes(t, "x := y;", "let r0 r1")
	becomes(t, "x := [0];", "get r1 @0 / let r0 r1")
	becomes(t, "x := [x];", "get r1 @r0 / let r0 r1")
	becomes(t, "x := 1; x := x + 1; x := x + x;", "let r0 1 / add r1 r0 1 / let r0 r1 / add r1 r0 r0 / let r0 r1")
	becomes(t, "release [3];", "drop @3")
	becomes(t, "release [x];", "drop @r0")
	becomes(t, "release [[x] + 1];", "get r1 @r0 / add r1 r1 1 / drop @r1")
	becomes(t, "return 0;", "done 0")
	becomes(t, "return x;", "done r0")
	becomes(t, "return -1;", "sub r0 0 1 / done r0")
	becomes(t, "return take [2];", "take r0 @2 / done r0")
	for _, c := range []struct{ at, put, laid string }{
		{"1", "2", "put @1 2"},
		{"1", "x", "put @1 r0"},
		{"x", "2", "put @r0 2"},
		{"x", "x", "put @r0 r0"},
		{"x", "[x]", "get r1 @r0 / put @r0 r1"},
		{"1", "[x]", "get r1 @r0 / put @1 r1"},
		{"[x]", "1", "get r1 @r0 / put @r1 1"},
		{"[x]", "x", "get r1 @r0 / put @r1 r0"},
		{"[x]", "[x]", "get r1 @r0 / get r2 @r0 / put @r1 r2"},
		{"[x] + 1", "[x] + [2]", "get r1 @r0 / add r1 r1 1 / get r2 @r0 / get r3 @2 / add r2 r2 r3 / put @r1 r2"},
		{"-x", "x - 1", "sub r1 0 r0 / sub r2 r0 1 / put @r1 r2"},
		{"!x", "1 + [2]", "if r0 != 0 f / let r1 1 / goto e / f: let r1 0 / e: get r2 @2 / add r2 1 r2 / put @r1 r2"},
	} {
		becomes(t, "x := 1; ["+c.at+"] := "+c.put+";", "let r0 1 / "+c.laid)
	}
}

// An If with and without Else, with empty branches, and what stands behind it.
func TestIfs(t *testing.T) {
	for _, c := range []struct{ text, laid, last string }{
		{"if a { }", "if r0 == 0 e", "e:"},
		{"if a { } else { }", "if r0 == 0 e", "e:"},
		{"if a { abort; }", "if r0 == 0 e / quit", "e:"},
		{"if a { abort; } else { }", "if r0 == 0 e / quit", "e:"},
		{"if a { } else { abort; }", "if r0 == 0 l / goto e / l: quit", "e:"},
		{"if a { abort; } else { return 1; }", "if r0 == 0 l / quit / goto e / l: done 1", "e:"},
		{"if !a { abort; release [1]; } else { return 1; release [2]; }", "if r0 != 0 l / quit / drop @1 / goto e / l: done 1 / drop @2", "e:"},
		{"if 1 { abort; }", "if 1 == 0 e / quit", "e:"},
		{"if 0 { abort; } else { return 0; }", "if 0 == 0 l / quit / goto e / l: done 0", "e:"},
	} {
		becomes(t, c.text, c.laid+" / "+c.last)
		becomes(t, c.text+" release [7];", c.laid+" / "+c.last+" drop @7")
		becomes(t, "release [7]; "+c.text, "drop @7 / "+c.laid+" / "+c.last)
		again := strings.NewReplacer(" e", " f", " l", " k", "l:", "k:", "e:", "f:")
		becomes(t, c.text+" "+c.text, c.laid+" / "+c.last+" "+again.Replace(c.laid)+" / f:")
	}
	becomes(t, "if a { abort; } else if b { return 1; } else { return 2; }",
		"if r0 == 0 l / quit / goto e / l: if r1 == 0 k / done 1 / goto e / k: done 2 / e:")
	becomes(t, "if a { abort; } else if b { return 1; }", "if r0 == 0 l / quit / goto e / l: if r1 == 0 e / done 1 / e:")
	becomes(t, "if a { if b { abort; } }", "if r0 == 0 e / if r1 == 0 e / quit / e:")
	becomes(t, "if a { if b { abort; } else { } } else { if c { } }", "if r0 == 0 l / if r1 == 0 m / quit / m: goto e / l: if r2 == 0 e / e:")
	becomes(t, "if a { if b { } } return 1;", "if r0 == 0 e / if r1 == 0 e / e: done 1")
	becomes(t, "if a { } else { if b { } else { if c { } else { abort; } } }", "if r0 == 0 l / goto e / l: if r1 == 0 m / goto e / m: if r2 == 0 n / goto e / n: quit / e:")
}

// A While with and without a body, in one another and in Ifs.
func TestWhiles(t *testing.T) {
	becomes(t, "while a { }", "s: if r0 == 0 e / goto s / e:")
	becomes(t, "while 1 { }", "s: if 1 == 0 e / goto s / e:")
	becomes(t, "while [0] { } return 1;", "s: get r0 @0 / if r0 == 0 e / goto s / e: done 1")
	becomes(t, "while !a { abort; }", "s: if r0 != 0 e / quit / goto s / e:")
	becomes(t, "abort; while a { } while a { }", "quit / s: if r0 == 0 m / goto s / m: if r0 == 0 e / goto m / e:")
	becomes(t, "while a { while b { } }", "s: if r0 == 0 e / m: if r1 == 0 s2 / goto m / s2: goto s / e:")
	becomes(t, "while a { while b { abort; } release [1]; }", "s: if r0 == 0 e / m: if r1 == 0 n / quit / goto m / n: drop @1 / goto s / e:")
	becomes(t, "while a { if b { abort; } }", "s: if r0 == 0 e / if r1 == 0 n / quit / n: goto s / e:")
	becomes(t, "while a { if b { } else { abort; } }", "s: if r0 == 0 e / if r1 == 0 n / goto m / n: quit / m: goto s / e:")
	becomes(t, "if a { while b { } }", "if r0 == 0 e / s: if r1 == 0 e / goto s / e:")
	becomes(t, "if a { while b { } } else { while c { } }", "if r0 == 0 l / s: if r1 == 0 m / goto s / m: goto e / l: if r2 == 0 e / goto l / e:")
	becomes(t, "while a && b { abort; }", "s: if r0 == 0 e / if r1 == 0 e / quit / goto s / e:")
	becomes(t, "while a || b { abort; }", "s: if r0 != 0 m / if r1 == 0 e / m: quit / goto s / e:")
	becomes(t, "while (a < b) + 1 { abort; }", "s: if r0 >= r1 f / let r2 1 / goto n / f: let r2 0 / n: add r2 r2 1 / if r2 == 0 e / quit / goto s / e:")
}

// Nothing is left out and nothing turned about, though nobody would miss it.
func TestNothingMore(t *testing.T) {
	becomes(t, "return 1; return 2; abort; x := x;", "done 1 / done 2 / quit / let r0 r0")
	becomes(t, "x := 1 + 2; y := 0 * [0];", "add r2 1 2 / let r0 r2 / get r2 @0 / mul r2 0 r2 / let r1 r2")
	becomes(t, "if 1 < 2 { abort; } else { return 1; }", "if 1 >= 2 l / quit / goto e / l: done 1 / e:")
	becomes(t, "if !!1 { } while !1 { }", "if 1 == 0 s / s: if 1 != 0 e / goto s / e:")
	becomes(t, "x := !!y;", "if r1 == 0 f / let r2 1 / goto e / f: let r2 0 / e: let r0 r2")
	becomes(t, "return --1;", "sub r0 0 1 / sub r0 0 r0 / done r0")
	becomes(t, "x := [0]; x := [0]; release [0]; release [0];", "get r1 @0 / let r0 r1 / get r1 @0 / let r0 r1 / drop @0 / drop @0")
}
