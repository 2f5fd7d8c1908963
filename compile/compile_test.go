package compile_test

import (
	"slices"
	"strings"
	"testing"

	"braid/api"
	"braid/compile"
	"braid/fixture"
	"braid/lang"
	"braid/source"
)

func TestExample1(t *testing.T) {
	becomes(t, "", "")
	becomes(t, "return 5;", "done 5")
	becomes(t, "x := 3; return x;", "let r0 3 / done r0")
}

func TestExample2(t *testing.T) {
	becomes(t, "x := [0] + 1; [0] := x; return x;", "get r1 @0 / add r1 r1 1 / let r0 r1 / put @0 r0 / done r0")
}

func TestExample3(t *testing.T) {
	becomes(t, "return [0] - [1] * 2;", "get r0 @0 / get r1 @1 / mul r1 r1 2 / sub r0 r0 r1 / done r0")
	becomes(t, "return 2 * [1];", "get r0 @1 / mul r0 2 r0 / done r0")
}

func TestExample4(t *testing.T) {
	becomes(t, "if [0] < 5 { [0] := 9; } else { abort; }", "get r0 @0 / if r0 >= 5 l0 / put @0 9 / goto l1 / l0: quit / l1:")
}

func TestExample5(t *testing.T) {
	becomes(t, "while x < 3 { x := x + 1; } return x;", "l0: if r0 >= 3 l1 / add r1 r0 1 / let r0 r1 / goto l0 / l1: done r0")
}

func TestExample6(t *testing.T) {
	becomes(t, "return !(a && b || c);", "if r0 == 0 m / if r1 != 0 f / m: if r2 != 0 f / let r3 1 / goto e / f: let r3 0 / e: done r3")
}

func TestExample7(t *testing.T) {
	becomes(t, "return a < b;", "if r0 >= r1 f / let r2 1 / goto e / f: let r2 0 / e: done r2")
	becomes(t, "return -[take [1]];", "take r0 @1 / get r0 @r0 / sub r0 0 r0 / done r0")
}

func TestExample8(t *testing.T) {
	leaves(t, "goto x / x: goto y / let r1 5 / y: done r1", "done r1")
	leaves(t, "x: goto x", "x: goto x")
	leaves(t, "let r1 r1 / if 1 < 2 e / quit / e:", "")
}

func TestExample9(t *testing.T) {
	refuses(t, fixture.Assigns(9), api.ErrNames)
	refuses(t, append(fixture.Assigns(8), returns(towers(8, fixture.Unary(source.Object, num(0))))...), api.ErrRegs)
	refuses(t, slices.Repeat(prog{aborts}, 65), api.ErrLength)
	refuses(t, append(slices.Repeat(prog{aborts}, 65), returns(towers(16, one(source.Object, num(0))))...), api.ErrRegs)
}

// The numbers that the chapter and DOC.md give.
func TestNumbers(t *testing.T) {
	if errors := [...]api.Errno{api.ErrRegs, api.ErrLength}; errors != [...]api.Errno{250, 251} {
		t.Errorf("the errors are %v", errors)
	}
	if lang.MaxCode != 64 || lang.MaxRegs != 16 || source.MaxNames != 8 {
		t.Errorf("the limits are %d, %d, %d", lang.MaxCode, lang.MaxRegs, source.MaxNames)
	}
}

var aborts = source.Stmt{Kind: source.Abort}

// towers is an expression below which so many temporaries are taken.
func towers(n int, e source.Expr) source.Expr {
	for range n {
		e = two(one(source.Object, num(0)), "+", e)
	}
	return e
}

// What source.Check refuses, whatever else there is: too many registers, too many instructions.
func TestRefusedTrees(t *testing.T) {
	high := returns(towers(16, one(source.Object, num(0))))
	long := slices.Repeat(prog{aborts}, 65)
	for why, list := range fixture.FaultyTrees() {
		for _, p := range list {
			for _, more := range []prog{nil, high, long, slices.Concat(long, high)} {
				whole := slices.Concat(more, p)
				if e := source.Check(whole); e != why {
					t.Fatalf("Check of %d statements: %d, want %d", len(whole), e, why)
				}
				refuses(t, whole, why)
			}
		}
	}
}

// layers are the expressions that lay an instruction down which fills their temporary.
func layers() map[string]source.Expr {
	list := map[string]source.Expr{
		"object": one(source.Object, num(0)),
		"taken":  one(source.Taken, name("a")),
		"minus":  one(source.Minus, name("a")),
		"not":    one(source.Not, num(1)),
	}
	for _, sign := range strings.Fields(signs) {
		list[sign] = two(name("a"), sign, num(1))
	}
	return list
}

const signs = fixture.LazySigns + " " + fixture.Relations + " " + fixture.Sums

// A register above 15, by each kind of expression and in each statement, is refused; register 15 is not.
func TestRegisters(t *testing.T) {
	for what, e := range layers() {
		for names := range 9 {
			for place, p := range statementsOf(e) {
				p = slices.Concat(fixture.Assigns(names-1), p)
				if names < 1 {
					p = prog{{Kind: source.Release, A: e}}
				}
				all, _ := source.Names(p)
				free := 16 - len(all)
				for d := free - 2; d <= free+1; d++ {
					tower := towers(d, e)
					p := replaced(p, e, tower)
					code, e := compile.Compile(p)
					if want := d >= free; (e == api.ErrRegs) != want || want != (code == nil) {
						t.Fatalf("%s, %s: Compile(%q) = %q, %d: with %d names the temporary %d", what, place, said(p), text(code), e, len(all), d)
					}
				}
			}
		}
	}
}

// statementsOf are statements of each kind, with an expression at the temporary 0.
func statementsOf(e source.Expr) map[string]prog {
	return map[string]prog{
		"assign":       {{Kind: source.Assign, Word: "a", A: e}},
		"store at":     {{Kind: source.Store, A: e, B: name("a")}},
		"store":        {{Kind: source.Store, A: name("a"), B: e}},
		"release":      {{Kind: source.Release, A: e}, {Kind: source.Assign, Word: "a", A: num(0)}},
		"if":           {{Kind: source.If, A: e}, {Kind: source.Assign, Word: "a", A: num(0)}},
		"while":        {{Kind: source.While, A: e}, {Kind: source.Assign, Word: "a", A: num(0)}},
		"return":       {{Kind: source.Return, A: e}, {Kind: source.Assign, Word: "a", A: num(0)}},
		"then":         {{Kind: source.If, A: name("a"), Then: returns(e)}},
		"else":         {{Kind: source.If, A: name("a"), Else: returns(e)}},
		"body":         {{Kind: source.While, A: name("a"), Then: returns(e)}},
		"never run":    {{Kind: source.Return, A: name("a")}, {Kind: source.Return, A: e}},
		"in a compare": {{Kind: source.If, A: two(name("a"), "<", e)}},
	}
}

// replaced is the program with another expression in that one's place.
func replaced(p prog, old, with source.Expr) prog {
	p = fixture.CopiedTree(p)
	for i := range p {
		p[i].A, p[i].B = swapped(p[i].A, old, with), swapped(p[i].B, old, with)
		p[i].Then, p[i].Else = replaced(p[i].Then, old, with), replaced(p[i].Else, old, with)
	}
	return p
}

func swapped(e, old, with source.Expr) source.Expr {
	if fixture.SameExpr(e, old) {
		return with
	}
	for i, a := range e.Args {
		e.Args[i] = swapped(a, old, with)
	}
	return e
}

// What is worked out behind a number or a name needs no further register, and what is a number or a name none at all.
func TestRegistersThatAreNotNeeded(t *testing.T) {
	eight := fixture.Assigns(8)
	e := one(source.Object, num(0))
	for range 20 {
		e = two(num(1), "+", e)
	}
	compiles(t, append(eight, returns(e)...))
	compiles(t, append(eight, returns(nested(20, source.Minus, one(source.Taken, name("x0"))))...))
	for _, last := range []source.Expr{num(5), name("x7")} {
		compiles(t, append(eight, returns(towers(8, last))...))
		refuses(t, append(eight, returns(towers(9, last))...), api.ErrRegs)
		compiles(t, returns(towers(16, num(5))))
		refuses(t, returns(towers(17, num(5))), api.ErrRegs)
	}
	// the second object of a Store needs a temporary of its own, just if the first one has one
	at := towers(7, one(source.Object, num(0)))
	compiles(t, append(eight, source.Stmt{Kind: source.Store, A: num(0), B: at}))
	compiles(t, append(eight, source.Stmt{Kind: source.Store, A: at, B: name("x0")}))
	refuses(t, append(eight, source.Stmt{Kind: source.Store, A: one(source.Object, num(0)), B: at}), api.ErrRegs)
	compiles(t, append(eight, source.Stmt{Kind: source.Store, A: one(source.Object, num(0)), B: at.Args[1]}))
}

// 64 instructions are a program, 65 are not, whatever they are.
func TestLength(t *testing.T) {
	for _, c := range []struct {
		text  string
		count int
	}{
		{"abort;", 1}, {"return a;", 1}, {"return [0];", 2}, {"a := 1;", 1}, {"a := -a;", 2}, {"[0] := 1;", 1}, {"[[0]] := [1];", 3}, {"release [0];", 1},
		{"if a { }", 1}, {"if a { } else { abort; }", 3}, {"while a { }", 2}, {"a := b < 1;", 5}, {"a := b && [c];", 7}, {"if a && !b { abort; }", 3},
	} {
		p := fixture.Source(t, c.text)
		if code := compiles(t, p); len(code) != c.count {
			t.Errorf("Compile(%q) = %q", c.text, text(code))
		}
		for count := 63; count <= 66; count++ {
			rest := slices.Repeat(prog{aborts}, count%c.count)
			for _, whole := range []prog{slices.Concat(slices.Repeat(p, count/c.count), rest), slices.Concat(rest, slices.Repeat(p, count/c.count))} {
				if count > 64 {
					refuses(t, whole, api.ErrLength)
				} else if code := compiles(t, whole); len(code) != count {
					t.Errorf("Compile(%q) has %d instructions, want %d", said(whole), len(code), count)
				}
			}
		}
	}
	refuses(t, slices.Repeat(prog{aborts}, 512), api.ErrLength)
	// as many labels as may be at the end of as many instructions as may be
	becomes(t, strings.Repeat("if a { ", 10)+strings.Repeat("b := a;", 54)+strings.Repeat(" }", 10), strings.Repeat("if r0 == 0 e / ", 10)+strings.Repeat("let r1 r0 / ", 54)+"e:")
}

// Both at once: too many registers stand first, wherever they stand.
func TestBothAtOnce(t *testing.T) {
	high := returns(towers(16, one(source.Object, num(0))))
	for _, n := range []int{31, 64, 65, 200} {
		long := slices.Repeat(prog{aborts}, n)
		refuses(t, slices.Concat(long, high), api.ErrRegs)
		refuses(t, slices.Concat(high, long), api.ErrRegs)
		refuses(t, slices.Concat(long, high, long), api.ErrRegs)
		refuses(t, prog{{Kind: source.If, A: num(0), Then: long, Else: high}}, api.ErrRegs)
	}
}

// The empty program, nil or not.
func TestEmpty(t *testing.T) {
	for _, p := range []prog{nil, {}} {
		if code := compiles(t, p); len(code) != 0 {
			t.Errorf("Compile = %q", text(code))
		}
	}
}
