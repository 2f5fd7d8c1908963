package compile_test

import (
	"slices"
	"strconv"
	"strings"
	"testing"

	"braid/api"
	"braid/fixture"
	"braid/source"
)

// Each kind of expression at the temporary 0 (register 2) and, behind another value, at the temporary 1.
func TestKinds(t *testing.T) {
	for _, c := range []struct{ text, laid, operand string }{
		{"7", "", "7"},
		{"9223372036854775807", "", "9223372036854775807"},
		{"a", "", "r0"},
		{"b", "", "r1"},
		{"[7]", "get D @7", "D"},
		{"[b]", "get D @r1", "D"},
		{"[[b]]", "get D @r1 / get D @D", "D"},
		{"[b + 1]", "add D r1 1 / get D @D", "D"},
		{"take [7]", "take D @7", "D"},
		{"take [b]", "take D @r1", "D"},
		{"take [take [[0]]]", "get D @0 / take D @D / take D @D", "D"},
		{"-7", "sub D 0 7", "D"},
		{"-b", "sub D 0 r1", "D"},
		{"--b", "sub D 0 r1 / sub D 0 D", "D"},
		{"-[7]", "get D @7 / sub D 0 D", "D"},
		{"!7", "if 7 != 0 f / let D 1 / goto e / f: let D 0 / e:", "D"},
		{"!b", "if r1 != 0 f / let D 1 / goto e / f: let D 0 / e:", "D"},
		{"!!b", "if r1 == 0 f / let D 1 / goto e / f: let D 0 / e:", "D"},
		{"!-b", "sub D 0 r1 / if D != 0 f / let D 1 / goto e / f: let D 0 / e:", "D"},
		{"-!b", "if r1 != 0 f / let D 1 / goto e / f: let D 0 / e: sub D 0 D", "D"},
		{"[!b]", "if r1 != 0 f / let D 1 / goto e / f: let D 0 / e: get D @D", "D"},
	} {
		first, second := strings.ReplaceAll(c.laid, "D", "r2"), strings.ReplaceAll(c.laid, "D", "r3")
		at0, at1 := strings.ReplaceAll(c.operand, "D", "r2"), strings.ReplaceAll(c.operand, "D", "r3")
		names := "let r0 1 / let r1 1 / "
		becomes(t, "a := 1; b := 1; return "+c.text+";", names+joined(first, "done "+at0))
		becomes(t, "a := 1; b := 1; return -a ^ ("+c.text+");", names+"sub r2 0 r0 / "+joined(second, "xor r2 r2 "+at1+" / done r2"))
		becomes(t, "a := 1; b := 1; return a ^ ("+c.text+");", names+joined(first, "xor r2 r0 "+at0+" / done r2"))
		becomes(t, "a := 1; b := 1; return ("+c.text+") ^ 1;", names+joined(first, "xor r2 "+at0+" 1 / done r2"))
	}
}

// Operands that are Numbers, Names and neither, on both sides of each operator that is an instruction.
func TestSums(t *testing.T) {
	words := strings.Fields(fixture.SumNames)
	for k, sign := range strings.Fields(fixture.Sums) {
		for _, c := range []struct{ left, right, laid string }{
			{"1", "2", "OP r2 1 2"},
			{"1", "a", "OP r2 1 r0"},
			{"b", "2", "OP r2 r1 2"},
			{"b", "a", "OP r2 r1 r0"},
			{"a", "a", "OP r2 r0 r0"},
			{"1", "[b]", "get r2 @r1 / OP r2 1 r2"},
			{"a", "[b]", "get r2 @r1 / OP r2 r0 r2"},
			{"[b]", "1", "get r2 @r1 / OP r2 r2 1"},
			{"[b]", "a", "get r2 @r1 / OP r2 r2 r0"},
			{"[a]", "[b]", "get r2 @r0 / get r3 @r1 / OP r2 r2 r3"},
			{"[a]", "-[b]", "get r2 @r0 / get r3 @r1 / sub r3 0 r3 / OP r2 r2 r3"},
			{"[a] + 1", "[b]", "get r2 @r0 / add r2 r2 1 / get r3 @r1 / OP r2 r2 r3"},
			{"[a]", "[b] - [1]", "get r2 @r0 / get r3 @r1 / get r4 @1 / sub r3 r3 r4 / OP r2 r2 r3"},
			{"a", "[b] - [1]", "get r2 @r1 / get r3 @1 / sub r2 r2 r3 / OP r2 r0 r2"},
			{"[a]", "1 - [1]", "get r2 @r0 / get r3 @1 / sub r3 1 r3 / OP r2 r2 r3"},
			{"a - 1", "2 - b", "sub r2 r0 1 / sub r3 2 r1 / OP r2 r2 r3"},
		} {
			e := "(" + c.left + ") " + sign + " (" + c.right + ")"
			if sign == "min" || sign == "max" {
				e = sign + "(" + c.left + ", " + c.right + ")"
			}
			laid := strings.ReplaceAll(c.laid, "OP", words[k])
			becomes(t, "a := 1; b := 1; return "+e+";", "let r0 1 / let r1 1 / "+laid+" / done r2")
		}
	}
}

// How far variables go is how far temporaries begin, wherever the names first stand.
func TestVariables(t *testing.T) {
	for n := range 9 {
		var p prog
		for i := range n {
			p = append(p, source.Stmt{Kind: source.Release, A: name("v" + strconv.Itoa(n-i))})
		}
		p = append(p, returns(one(source.Object, num(3)))...)
		want := ""
		for i := range n {
			want += "drop @r" + strconv.Itoa(i) + " / "
		}
		r := "r" + strconv.Itoa(n)
		if code := compiles(t, p); text(code) != want+"get "+r+" @3 / done "+r {
			t.Errorf("%q: %q", said(p), text(code))
		}
	}
	// by the order in which they first stand in the text: those that are never filled too, those of what is never run too
	becomes(t, "b := a; while c { a := d; [e] := b; }", "let r0 r1 / s: if r2 == 0 e / let r1 r3 / put @r4 r0 / goto s / e:")
	becomes(t, "if b { [a] := c; } else { c := a; } d := b;", "if r0 == 0 l / put @r1 r2 / goto e / l: let r2 r1 / e: let r3 r0")
	becomes(t, "return z; y := x + z;", "done r0 / add r3 r2 r0 / let r1 r3")
}

// A truth in the midst of an expression stands in its temporary, and what was worked out ahead of it stays where it is.
func TestTruthsInside(t *testing.T) {
	becomes(t, "return (a < b) + 1;", "if r0 >= r1 f / let r2 1 / goto e / f: let r2 0 / e: add r2 r2 1 / done r2")
	becomes(t, "return 1 + (a < b);", "if r0 >= r1 f / let r2 1 / goto e / f: let r2 0 / e: add r2 1 r2 / done r2")
	becomes(t, "return [a] + ([b] < [a]);", "get r2 @r0 / get r3 @r1 / get r4 @r0 / if r3 >= r4 f / let r3 1 / goto e / f: let r3 0 / e: add r2 r2 r3 / done r2")
	becomes(t, "return (a == 1) * (b != 2);", "if r0 != 1 f / let r2 1 / goto e / f: let r2 0 / e: if r1 == 2 g / let r3 1 / goto h / g: let r3 0 / h: mul r2 r2 r3 / done r2")
	becomes(t, "return min(!a, a && b);", "if r0 != 0 f / let r2 1 / goto e / f: let r2 0 / e: if r0 == 0 g / if r1 == 0 g / let r3 1 / goto h / g: let r3 0 / h: min r2 r2 r3 / done r2")
	becomes(t, "x := a || b; return x;", "if r1 != 0 m / if r2 == 0 f / m: let r3 1 / goto e / f: let r3 0 / e: let r0 r3 / done r0")
	becomes(t, "[a < 1] := b > 2;", "if r0 >= 1 f / let r2 1 / goto e / f: let r2 0 / e: if r1 <= 2 g / let r3 1 / goto h / g: let r3 0 / h: put @r2 r3")
	// a comparison of truths, and a truth of a comparison
	becomes(t, "return (a < b) == (b < a);", "if r0 >= r1 f / let r2 1 / goto e / f: let r2 0 / e: if r1 >= r0 g / let r3 1 / goto h / g: let r3 0 / h: if r2 != r3 i / let r2 1 / goto j / i: let r2 0 / j: done r2")
	becomes(t, "return !(a < b) < 1;", "if r0 < r1 f / let r2 1 / goto e / f: let r2 0 / e: if r2 >= 1 i / let r2 1 / goto j / i: let r2 0 / j: done r2")
}

// Thrown expressions and programs, against the plain compiler.
func TestThrown(t *testing.T) {
	t.Parallel()
	d := fixture.NewDice()
	seen := map[api.Errno]int{}
	for range 6000 {
		p := fixture.Tree(&d, d.Below(fixture.Pick(&d, 4, 12, 40, 90)), 3)
		switch d.Below(4) {
		case 0:
			p = append(p, returns(fixture.Expr(&d, d.Below(60), 3))...)
		case 1:
			p = slices.Insert(p, d.Below(len(p)+1), returns(towers(d.Below(17), fixture.Expr(&d, 20, 3)))...)
		}
		if source.Check(p) != api.OK {
			continue
		}
		want, e := plainCompile(t, p)
		seen[e]++
		if e != api.OK {
			refuses(t, p, e)
		} else if code := compiles(t, p); !slices.Equal(code, want) {
			t.Fatalf("Compile(%q) = %q, want %q", said(p), text(code), text(want))
		}
	}
	if seen[api.OK] < 3000 || seen[api.ErrRegs] < 100 || seen[api.ErrLength] < 200 {
		t.Errorf("answered: %v", seen)
	}
}
