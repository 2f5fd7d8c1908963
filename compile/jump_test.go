package compile_test

import (
	"strings"
	"testing"

	"braid/fixture"
)

// Each relation, in a jump where it is false and in one where it is true.
func TestRelations(t *testing.T) {
	for _, two := range strings.Split(opposites, " / ") {
		rel, not := strings.Fields(two)[0], strings.Fields(two)[1]
		for _, c := range []struct{ left, right, laid, x, y string }{
			{"1", "2", "", "1", "2"},
			{"a", "2", "", "r0", "2"},
			{"1", "b", "", "1", "r1"},
			{"a", "b", "", "r0", "r1"},
			{"[a]", "2", "get r2 @r0 / ", "r2", "2"},
			{"[a]", "b", "get r2 @r0 / ", "r2", "r1"},
			{"1", "[b]", "get r2 @r1 / ", "1", "r2"},
			{"a", "[b]", "get r2 @r1 / ", "r0", "r2"},
			{"[a]", "[b]", "get r2 @r0 / get r3 @r1 / ", "r2", "r3"},
			{"a + b", "-[b]", "add r2 r0 r1 / get r3 @r1 / sub r3 0 r3 / ", "r2", "r3"},
		} {
			lets := "let r0 1 / let r1 1 / "
			e := c.left + " " + rel + " " + c.right
			where := func(r string) string { return lets + c.laid + "if " + c.x + " " + r + " " + c.y + " f / quit / f:" }
			becomes(t, "a := 1; b := 1; if "+e+" { abort; }", where(not))
			becomes(t, "a := 1; b := 1; if !("+e+") { abort; }", where(rel))
			becomes(t, "a := 1; b := 1; if !!("+e+") { abort; }", where(not))
			becomes(t, "a := 1; b := 1; while "+e+" { abort; }", lets+"s: "+c.laid+"if "+c.x+" "+not+" "+c.y+" f / quit / goto s / f:")
			becomes(t, "a := 1; b := 1; if a || "+e+" { abort; }", lets+"if r0 != 0 m / "+c.laid+"if "+c.x+" "+not+" "+c.y+" f / m: quit / f:")
			becomes(t, "a := 1; b := 1; if "+e+" || a { abort; }", lets+c.laid+"if "+c.x+" "+rel+" "+c.y+" m / if r0 == 0 f / m: quit / f:")
			becomes(t, "a := 1; b := 1; return "+e+";", lets+c.laid+"if "+c.x+" "+not+" "+c.y+" f / let r2 1 / goto e / f: let r2 0 / e: done r2")
		}
	}
}

// What is no truth is held against 0, both ways.
func TestOthers(t *testing.T) {
	for _, c := range []struct{ text, laid, operand string }{
		{"5", "", "5"}, {"0", "", "0"}, {"b", "", "r1"}, {"[b]", "get r2 @r1 / ", "r2"}, {"take [b]", "take r2 @r1 / ", "r2"}, {"-b", "sub r2 0 r1 / ", "r2"},
		{"-!b", "if r1 != 0 n / let r2 1 / goto m / n: let r2 0 / m: sub r2 0 r2 / ", "r2"},
		{"[a] + [b]", "get r2 @r0 / get r3 @r1 / add r2 r2 r3 / ", "r2"},
		{"min(a, b)", "min r2 r0 r1 / ", "r2"},
	} {
		lets := "let r0 1 / let r1 1 / "
		becomes(t, "a := 1; b := 1; if "+c.text+" { abort; }", lets+c.laid+"if "+c.operand+" == 0 f / quit / f:")
		becomes(t, "a := 1; b := 1; if !("+c.text+") { abort; }", lets+c.laid+"if "+c.operand+" != 0 f / quit / f:")
		becomes(t, "a := 1; b := 1; while !!!("+c.text+") { abort; }", lets+"s: "+c.laid+"if "+c.operand+" != 0 f / quit / goto s / f:")
	}
	for k, sign := range strings.Fields(fixture.Sums) {
		if sign == "min" || sign == "max" {
			continue
		}
		op := strings.Fields(fixture.SumNames)[k]
		becomes(t, "a := 1; if a "+sign+" 3 { abort; }", "let r0 1 / "+op+" r1 r0 3 / if r1 == 0 f / quit / f:")
		becomes(t, "a := 1; if !(a "+sign+" 3) { abort; }", "let r0 1 / "+op+" r1 r0 3 / if r1 != 0 f / quit / f:")
	}
}

// Not, && and || in one another, both ways.
func TestNested(t *testing.T) {
	lets := "let r0 1 / let r1 1 / let r2 1 / "
	for _, c := range []struct{ test, laid string }{
		{"a && b", "if r0 == 0 f / if r1 == 0 f"},
		{"a || b", "if r0 != 0 m / if r1 == 0 f / m:"},
		{"!(a && b)", "if r0 == 0 m / if r1 != 0 f / m:"},
		{"!(a || b)", "if r0 != 0 f / if r1 != 0 f"},
		{"!a && b", "if r0 != 0 f / if r1 == 0 f"},
		{"!a && !b", "if r0 != 0 f / if r1 != 0 f"},
		{"!a || b", "if r0 == 0 m / if r1 == 0 f / m:"},
		{"a || !b", "if r0 != 0 m / if r1 != 0 f / m:"},
		{"!(!a && b)", "if r0 != 0 m / if r1 != 0 f / m:"},
		{"!(a || !b)", "if r0 != 0 f / if r1 == 0 f"},
		{"a && b && c", "if r0 == 0 f / if r1 == 0 f / if r2 == 0 f"},
		{"a && (b && c)", "if r0 == 0 f / if r1 == 0 f / if r2 == 0 f"},
		{"a || b || c", "if r0 != 0 m / if r1 != 0 m / if r2 == 0 f / m:"},
		{"a || (b || c)", "if r0 != 0 m / if r1 != 0 n / if r2 == 0 f / n: m:"},
		{"a && b || c", "if r0 == 0 n / if r1 != 0 m / n: if r2 == 0 f / m:"},
		{"a || b && c", "if r0 != 0 m / if r1 == 0 f / if r2 == 0 f / m:"},
		{"(a || b) && c", "if r0 != 0 n / if r1 == 0 f / n: if r2 == 0 f"},
		{"a && (b || c)", "if r0 == 0 f / if r1 != 0 m / if r2 == 0 f / m:"},
		{"!(a && b || c)", "if r0 == 0 n / if r1 != 0 f / n: if r2 != 0 f"},
		{"!((a || b) && c)", "if r0 != 0 n / if r1 == 0 m / n: if r2 != 0 f / m:"},
		{"!(a && b && c)", "if r0 == 0 m / if r1 == 0 m / if r2 != 0 f / m:"},
		{"!(a || b || c)", "if r0 != 0 f / if r1 != 0 f / if r2 != 0 f"},
		{"a < b && b >= c", "if r0 >= r1 f / if r1 < r2 f"},
		{"a < b || b >= c", "if r0 < r1 m / if r1 < r2 f / m:"},
		{"!(a < b || b >= c)", "if r0 < r1 f / if r1 >= r2 f"},
		{"[a] && [b]", "get r3 @r0 / if r3 == 0 f / get r3 @r1 / if r3 == 0 f"},
		{"[a] == 1 || [b] == [c]", "get r3 @r0 / if r3 == 1 m / get r3 @r1 / get r4 @r2 / if r3 != r4 f / m:"},
		{"!([a] + 1) && !!b", "get r3 @r0 / add r3 r3 1 / if r3 != 0 f / if r1 == 0 f"},
	} {
		becomes(t, "a := 1; b := 1; c := 1; if "+c.test+" { abort; }", joined(lets+c.laid, "quit / f:"))
		becomes(t, "a := 1; b := 1; c := 1; if "+c.test+" { abort; } else { return 5; }", joined(lets+c.laid, "quit / goto e / f: done 5 / e:"))
		becomes(t, "a := 1; b := 1; c := 1; while "+c.test+" { abort; }", joined(lets+"s: "+c.laid, "quit / goto s / f:"))
	}
	// as a value: where it is false it leads to the 0
	becomes(t, "return a && b;", "if r0 == 0 f / if r1 == 0 f / let r2 1 / goto e / f: let r2 0 / e: done r2")
	becomes(t, "return a || b;", "if r0 != 0 m / if r1 == 0 f / m: let r2 1 / goto e / f: let r2 0 / e: done r2")
	becomes(t, "return !(a && b);", "if r0 == 0 m / if r1 != 0 f / m: let r2 1 / goto e / f: let r2 0 / e: done r2")
	becomes(t, "return a && (b < 1) + 1;", "if r0 == 0 f / if r1 >= 1 g / let r2 1 / goto h / g: let r2 0 / h: add r2 r2 1 / if r2 == 0 f / let r2 1 / goto e / f: let r2 0 / e: done r2")
}
