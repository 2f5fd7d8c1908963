package source_test

import (
	"strings"
	"testing"

	"braid/api"
	"braid/source"
)

func TestExample1(t *testing.T) {
	says(t, "")
	prints(t, nil, "")
	says(t, "x := 1 + 2 * 3;", assign("x", two(num(1), "+", two(num(2), "*", num(3)))))
	lays(t, "x := 1 + 2 * 3;", "x := 1 + 2 * 3;\n")
	says(t, "x:=(1+2)*3;#y", assign("x", two(two(num(1), "+", num(2)), "*", num(3))))
	lays(t, "x:=(1+2)*3;#y", "x := (1 + 2) * 3;\n")
}

func TestExample2(t *testing.T) {
	text := "if [0] < 5 && !a { [0] := [0] + 1; } else if a { abort; } else { return -a; }"
	a, zero := name("a"), one(source.Object, num(0))
	says(t, text, source.Stmt{
		Kind: source.If,
		A:    two(two(zero, "<", num(5)), "&&", one(source.Not, a)),
		Then: []source.Stmt{{Kind: source.Store, A: num(0), B: two(zero, "+", num(1))}},
		Else: []source.Stmt{{
			Kind: source.If,
			A:    a,
			Then: []source.Stmt{aborts()},
			Else: []source.Stmt{returns(one(source.Minus, a))},
		}},
	})
	lays(t, text, "if [0] < 5 && !a {\n\t[0] := [0] + 1;\n} else if a {\n\tabort;\n} else {\n\treturn -a;\n}\n")
	lays(t, "if a { } else { if b { abort; } }", "if a {\n} else if b {\n\tabort;\n}\n")
	lays(t, "if a { abort; } else { }", "if a {\n\tabort;\n}\n")
}

func TestExample3(t *testing.T) {
	for _, text := range []string{"x := a - (b - c) - d;", "x := (a < b) == c;", "x := --1;", "x := -(1 + 2) - -3;", "x := !(a == b);"} {
		lays(t, text, text+"\n")
	}
	lays(t, "x := (a - b) - c;", "x := a - b - c;\n")
	lays(t, "x := (-a) * b;", "x := -a * b;\n")
	faulty(t, "x := a < b == c;", 1, 12)
	says(t, "x := --1;", assign("x", one(source.Minus, one(source.Minus, num(1)))))
}

func TestExample4(t *testing.T) {
	for _, text := range []string{"x := min(1, max(a, 2)) << 3;", "y := take [a + 1];", "release [min(a, 1)];"} {
		lays(t, text, text+"\n")
	}
	faulty(t, "min := 1;", 1, 1)
	faulty(t, "x := min;", 1, 9)
}

func TestExample5(t *testing.T) {
	faulty(t, "x := 007;", 1, 6)
	faulty(t, "x := 9223372036854775808;", 1, 6)
	faulty(t, "x := 12ab;", 1, 8)
	faulty(t, "abcdefghijklmnopq := 1;", 1, 1)
	faulty(t, "x = 1;", 1, 3)
	faulty(t, "X := 1;", 1, 1)
	faulty(t, "x := 1", 1, 7)
	faulty(t, "x := 1\n", 2, 1)
	faulty(t, "x := ;", 1, 6)
	faulty(t, "}", 1, 1)
	faulty(t, "if a { x := 1; ", 1, 16)
	faulty(t, "else { }", 1, 1)
	faulty(t, "return;", 1, 7)
	faulty(t, "x := 1; ?", 1, 9)
	faulty(t, "x := (1; ?", 1, 8)
}

func TestExample6(t *testing.T) {
	checks(t, []source.Stmt{assign("if", num(1))}, api.ErrTree)
	checks(t, []source.Stmt{{Kind: source.Abort, Word: "x"}}, api.ErrTree)
	checks(t, []source.Stmt{{Kind: source.Return}}, api.ErrTree)
	checks(t, []source.Stmt{returns(num(-1))}, api.ErrTree)
	var nine []source.Stmt
	for _, w := range strings.Fields("a b c d e f g h i") {
		nine = append(nine, assign(w, num(0)))
	}
	checks(t, nine, api.ErrNames)
	checks(t, nine[:8], api.OK)
	checks(t, []source.Stmt{returns(nested(23, source.Minus, num(0)))}, api.ErrDeep)
	checks(t, []source.Stmt{returns(nested(22, source.Minus, num(0)))}, api.OK)
	checks(t, times(513, aborts()), api.ErrBig)
	checks(t, times(512, aborts()), api.OK)
}

func TestExample7(t *testing.T) {
	names(t, reads(t, "b := a; while c { a := d; [e] := b; }"), "b", "a", "c", "d", "e")
}

// The numbers that the chapter gives.
func TestNumbers(t *testing.T) {
	kinds := [...]int{
		source.Number, source.Name, source.Object, source.Taken, source.Minus, source.Not, source.Binary,
		source.Assign, source.Store, source.Release, source.If, source.While, source.Abort, source.Return,
	}
	if kinds != [...]int{1, 2, 3, 4, 5, 6, 7, 1, 2, 3, 4, 5, 6, 7} {
		t.Errorf("the kinds are %v", kinds)
	}
	limits := [...]int{source.MaxSource, source.MaxNodes, source.MaxDepth, source.MaxNames, source.MaxLetter}
	if limits != [...]int{32768, 512, 24, 8, 16} {
		t.Errorf("the limits are %v", limits)
	}
	errors := [...]api.Errno{api.ErrSource, api.ErrToken, api.ErrNames, api.ErrDeep, api.ErrBig, api.ErrTree}
	if errors != [...]api.Errno{230, 231, 232, 233, 234, 235} {
		t.Errorf("the errors are %v", errors)
	}
}
