package meaning_test

import (
	"strings"
	"testing"

	"braid/api"
	"braid/fixture"
)

// Each kind of statement by itself, with the fuel that it needs and with every one below it.
func TestCountOfStatements(t *testing.T) {
	for _, c := range []struct {
		text    string
		outcome int
		result  int64
		count   int
		left    int64
	}{
		{"x := 1;", api.EndCommit, 0, 2, 5},
		{"[0] := 1;", api.EndCommit, 0, 3, 1},
		{"release [0];", api.EndCommit, 0, 2, 5},
		{"abort;", api.EndUser, 0, 1, 5},
		{"return 7;", api.EndCommit, 7, 2, 5},
		{"if 1 { }", api.EndCommit, 0, 2, 5},
		{"if 0 { }", api.EndCommit, 0, 2, 5},
		{"if 1 { x := 1; }", api.EndCommit, 0, 4, 5},
		{"if 0 { x := 1; }", api.EndCommit, 0, 2, 5},
		{"if 0 { } else { x := 1; }", api.EndCommit, 0, 4, 5},
		{"if 1 { } else { x := 1; }", api.EndCommit, 0, 2, 5},
		{"if 1 { x := 1; } else { abort; }", api.EndCommit, 0, 4, 5},
		{"if 0 { abort; } else { x := 1; y := 2; }", api.EndCommit, 0, 6, 5},
		{"if 0 { abort; } else if 1 { x := 1; } else { abort; }", api.EndCommit, 0, 6, 5},
		{"while 0 { }", api.EndCommit, 0, 2, 5},
		{"while 0 { abort; }", api.EndCommit, 0, 2, 5},
		{"while 1 { abort; }", api.EndUser, 0, 3, 5},
		{"while 1 { return 4; }", api.EndCommit, 4, 4, 5},
		{"while !x { x := 1; }", api.EndCommit, 0, 8, 5},
		{"while x < 3 { x := x + 1; } return x;", api.EndCommit, 3, 3*8 + 4 + 2, 5},
		{"while x < 2 { x := x + 1; y := 0; while y < 2 { y := y + 1; } }", api.EndCommit, 0, 2*(4+4+2+2*8+4) + 4, 5},
		{"while x < 2 { x := x + 1; if x == 1 { } else { [0] := x; } }", api.EndCommit, 0, 2*(4+4+4) + 3 + 4, 2},
		{"x := 1; [0] := 2; release [0]; abort;", api.EndUser, 0, 2 + 3 + 2 + 1, 5},
		{"x := 1; [0] := 2; release [0]; return x;", api.EndCommit, 1, 2 + 3 + 2 + 2, 2},
		{"x := 1; return 1; abort;", api.EndCommit, 1, 4, 5},
		{"return 1; abort; abort;", api.EndCommit, 1, 2, 5},
		{"abort; return 1;", api.EndUser, 0, 1, 5},
	} {
		runs(t, c.text, objects{5}, nil, alone(c.outcome, c.result, c.count, c.left))
	}
}

// Each kind of expression by itself, at each place where one may stand.
func TestCountOfExpressions(t *testing.T) {
	for _, c := range []struct {
		text  string
		value int64
		count int
	}{
		{"7", 7, 1},
		{"x", 0, 1},
		{"[0]", 0, 2},
		{"[[0]]", 0, 3},
		{"take [0]", 0, 2},
		{"take [[0]]", 0, 3},
		{"take [[0] + 1]", 5, 5},
		{"-7", -7, 2},
		{"--7", 7, 3},
		{"!7", 0, 2},
		{"!!!0", 1, 4},
		{"1 + 2", 3, 3},
		{"1 + 2 * 3", 7, 5},
		{"(1 + 2) * 3", 9, 5},
		{"-(1 + 2)", -3, 4},
		{"min(1, 2)", 1, 3},
		{"max(1, min(2, 3))", 2, 5},
		{"0 && 1", 0, 2},
		{"1 && 0", 0, 3},
		{"5 && 7", 1, 3},
		{"0 || 0", 0, 3},
		{"0 || 7", 1, 3},
		{"5 || 1", 1, 2},
		{"0 && 1 && 1", 0, 3},
		{"1 && 0 && 1", 0, 4},
		{"1 && 1 && 1", 1, 5},
		{"1 || 1 || 1", 1, 3},
		{"0 || 1 || 1", 1, 4},
		{"0 || 0 || 1", 1, 5},
		{"0 && 1 || 1", 1, 4},
		{"1 || 1 && 0", 1, 2},
		{"(0 || 1) && (1 || 0)", 1, 6},
		{"0 && (1 + 2 + 3)", 0, 2},
		{"1 || [9]", 1, 2},
		{"0 && take [-1]", 0, 2},
		{"[0] + [1] * [0]", 0, 8},
	} {
		over := objects{0, 5}
		runs(t, "return "+c.text+";", over, nil, alone(api.EndCommit, c.value, 1+c.count, over...))
		runs(t, "x := "+c.text+"; return x;", over, nil, alone(api.EndCommit, c.value, 3+c.count, over...))
		runs(t, "[1] := "+c.text+";", over, nil, alone(api.EndCommit, 0, 2+c.count, 0, c.value))
		then := map[bool]int64{true: 8, false: 9}[c.value != 0]
		runs(t, "if "+c.text+" { return 8; } return 9;", over, nil, alone(api.EndCommit, then, 3+c.count, over...))
		runs(t, "while "+c.text+" { return 8; } return 9;", over, nil, alone(api.EndCommit, then, 3+c.count, over...))
		runs(t, "if 0 { } else { if ("+c.text+") == ("+c.text+") { return 3; } }", over, nil, alone(api.EndCommit, 3, 2+1+1+2*c.count+2, over...))
		bounded := "min(max(" + c.text + ", 0), 1)"
		runs(t, "["+bounded+"] := 6;", over, nil, alone(api.EndCommit, 0, 1+4+c.count+1, sets(c.value > 0, 6)...))
		runs(t, "release ["+bounded+"];", over, nil, alone(api.EndCommit, 0, 1+4+c.count, over...))
	}
}

// sets are the numbers 0 and 5, of which one has become n.
func sets(second bool, n int64) objects {
	if second {
		return objects{0, n}
	}
	return objects{n, 5}
}

// Each operator evaluates both operands, but for the two that leave the right one out.
func TestCountOfOperators(t *testing.T) {
	for _, op := range strings.Fields(signs) {
		for _, left := range []string{"0", "1", "7"} {
			for _, right := range []string{"[0]", "[9]"} {
				e := left + " " + op + " " + right
				if op == "min" || op == "max" {
					e = op + "(" + left + ", " + right + ")"
				}
				skips := op == "||" && left != "0" || op == "&&" && left == "0"
				switch {
				case skips:
					runs(t, "x := "+e+";", objects{3}, nil, alone(api.EndCommit, 0, 3, 3))
				case right == "[9]":
					runs(t, "x := "+e+";", objects{3}, nil, alone(api.EndBad, 0, 5, 3))
				default:
					runs(t, "x := "+e+";", objects{3}, nil, alone(api.EndCommit, 0, 5, 3))
				}
			}
		}
	}
}

// Where the fuel ends: ahead of a statement, a test, an operand, the number that is stored; what was done so far is gone.
func TestFuelEndsAnywhere(t *testing.T) {
	over := objects{5, 7}
	for _, c := range []struct {
		text  string
		fuels []int // of each place named by its own word, in the order in which they are come to
	}{
		{"[0] := 9; x := 1;", []int{0, 1, 2, 3, 4}},
		{"[0] := 9; if [1] { abort; }", []int{3, 4, 5, 6}},
		{"[0] := 9; while 1 { }", []int{3, 4, 5, 6, 7, 8, 10000}},
		{"[0] := 9; while 1 { x := x + 1; }", []int{3, 4, 5, 6, 7, 8, 9, 10, 11, 12, 9999, 10000}},
		{"[0] := 9; [1] := [0] + -[0];", []int{3, 4, 5, 6, 7, 8, 9, 10}},
		{"[0] := 9; release [[0] - 9];", []int{3, 4, 5, 6, 7}},
		{"[0] := 9; return [1] && !0 || 1;", []int{3, 4, 5, 6, 7, 8, 9}},
	} {
		p := fixture.Source(t, c.text)
		for _, fuel := range c.fuels {
			is(t, p, over, given{use(4)}, fuel, alone(api.EndNone, 0, fuel, over...))
		}
	}
}

// A loop without an end takes every fuel to its end, wherever in its round that is.
func TestEndless(t *testing.T) {
	for _, text := range []string{
		"while 1 { }", "while 7 { x := x + 1; }", "while -1 { [0] := [0] + 1; }", "while [0] || 1 { release [0]; }", "while 1 { while 1 { } }", "while !x { while x { } }",
		"x := 1; while x { if x { y := y + x; } else { abort; } }", "while take [0] + 1 { while 0 { } if 0 { } }",
	} {
		p := fixture.Source(t, text)
		for fuel := range 200 {
			is(t, p, objects{5}, nil, fuel, alone(api.EndNone, 0, fuel, 5))
		}
		for fuel := api.MaxFuel - 20; fuel <= api.MaxFuel; fuel++ {
			is(t, p, objects{5}, nil, fuel, alone(api.EndNone, 0, fuel, 5))
		}
	}
}

// Runs of just as many as the greatest fuel, and of one more.
func TestGreatestFuel(t *testing.T) {
	loop := "while x < 1249 { x := x + 1; } " // 1249 * 8 + 4 = 9996
	p := fixture.Source(t, loop+"y := 1; return x;")
	is(t, p, nil, nil, 10000, alone(api.EndCommit, 1249, 10000))
	is(t, p, nil, nil, 9999, alone(api.EndNone, 0, 9999))
	is(t, fixture.Source(t, loop+"y := 1; return -x;"), nil, nil, 10000, alone(api.EndNone, 0, 10000))
	is(t, fixture.Source(t, loop+"y := 1; z := 1;"), nil, nil, 10000, alone(api.EndCommit, 0, 10000))
	is(t, fixture.Source(t, loop+"y := 1; z := 1; abort;"), nil, nil, 10000, alone(api.EndNone, 0, 10000))
	is(t, fixture.Source(t, loop+"y := 1; abort; abort;"), nil, nil, 10000, alone(api.EndUser, 0, 9999))
	is(t, fixture.Source(t, loop+"y := 1; z := [0];"), nil, nil, 10000, alone(api.EndNone, 0, 10000))
	is(t, fixture.Source(t, loop+"y := 1; release [0];"), nil, nil, 10000, alone(api.EndBad, 0, 10000))
}
