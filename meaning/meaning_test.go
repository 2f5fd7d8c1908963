package meaning_test

import (
	"strings"
	"testing"

	"braid/api"
	"braid/fixture"
	"braid/source"
)

func TestExample1(t *testing.T) {
	p := fixture.Source(t, inc)
	is(t, p, objects{5, 7}, nil, 100, alone(api.EndCommit, 6, 9, 6, 7))
	is(t, p, objects{5, 7}, nil, 9, alone(api.EndCommit, 6, 9, 6, 7))
	is(t, p, objects{5, 7}, nil, 8, alone(api.EndNone, 0, 8, 5, 7))
	runs(t, inc, objects{5, 7}, nil, alone(api.EndCommit, 6, 9, 6, 7))
}

func TestExample2(t *testing.T) {
	runs(t, inc, objects{5, 7}, given{use(40)}, alone(api.EndCommit, 41, 9, 41, 7))
	runs(t, inc, objects{5, 7}, given{{Value: 40}}, alone(api.EndCommit, 6, 9, 6, 7))
}

func TestExample3(t *testing.T) {
	text := "x := 10; while x { y := y + x; x := x - 1; } return y;"
	for _, none := range []objects{nil, {}} {
		runs(t, text, none, nil, alone(api.EndCommit, 55, 106))
		is(t, fixture.Source(t, text), none, nil, 20, alone(api.EndNone, 0, 20))
	}
}

func TestExample4(t *testing.T) {
	runs(t, "x := [0] || [9];", objects{1}, nil, alone(api.EndCommit, 0, 4, 1))
	runs(t, "x := [0] || [9];", objects{0}, nil, alone(api.EndBad, 0, 6, 0))
	runs(t, "x := [0] && [9];", objects{0}, nil, alone(api.EndCommit, 0, 4, 0))
	runs(t, "x := [0] && [9];", objects{1}, nil, alone(api.EndBad, 0, 6, 1))
}

func TestExample5(t *testing.T) {
	runs(t, "[3] := [0];", objects{5}, nil, alone(api.EndBad, 0, 4, 5))
	runs(t, "[[0]] := [9];", objects{5}, nil, alone(api.EndBad, 0, 5, 5))
}

func TestExample6(t *testing.T) {
	runs(t, "x := [0]; release [0]; y := [0]; return x - y;", objects{5}, given{use(8)}, alone(api.EndCommit, 3, 12, 5))
	runs(t, "x := [0]; y := [0]; return x - y;", objects{5}, given{use(8)}, alone(api.EndCommit, 0, 10, 5))
}

func TestExample7(t *testing.T) {
	runs(t, "x := [0]; y := take [0]; return x - y;", objects{5}, given{use(8)}, alone(api.EndCommit, 3, 10, 5))
	runs(t, "[0] := 9; x := [0]; release [0]; return x + [0];", objects{5}, nil, alone(api.EndCommit, 18, 13, 9))
}

func TestExample8(t *testing.T) {
	runs(t, "[0] := 9; abort;", objects{5}, nil, alone(api.EndUser, 0, 4, 5))
	runs(t, "return 1; [0] := 9;", objects{5}, nil, alone(api.EndCommit, 1, 2, 5))
}

func TestExample9(t *testing.T) {
	e := expr(t, "a + b * 2")
	evals(t, e, []string{"a", "b"}, []int64{1}, 1)
	evalRefuses(t, e, []string{"a"}, []int64{1, 2}, api.ErrName)
	evalRefuses(t, e, []string{"a", "a"}, []int64{}, api.ErrName)
	evalRefuses(t, e, []string{"if"}, []int64{}, api.ErrName)
	evalRefuses(t, expr(t, "[0]"), nil, nil, api.ErrTree)
	evalRefuses(t, source.Expr{}, nil, nil, api.ErrTree)
	evals(t, expr(t, "7 / 0"), nil, nil, 0)
	evals(t, expr(t, "-7 % 2"), nil, nil, -1)
	evals(t, expr(t, "1 << 64"), nil, nil, 1)
}

// The numbers that the chapter and DOC.md give.
func TestNumbers(t *testing.T) {
	errors := [...]api.Errno{api.ErrObjects, api.ErrGiven, api.ErrFuel, api.ErrName}
	if errors != [...]api.Errno{110, 111, 112, 240} {
		t.Errorf("the errors are %v", errors)
	}
	limits := [...]int{api.MaxMap, api.MaxGiven, api.MaxFuel}
	if limits != [...]int{16, 4096, 10000} {
		t.Errorf("the limits are %v", limits)
	}
}

// The program's own error stands ahead of all others, whatever they are.
func TestRefusedPrograms(t *testing.T) {
	for why, list := range fixture.FaultyTrees() {
		for _, p := range list {
			if e := source.Check(p); e != why {
				t.Fatalf("Check of %d statements: %d, want %d", len(p), e, why)
			}
			for _, over := range []int{0, 16, 17} {
				for _, g := range []int{0, 4096, 4097} {
					for _, fuel := range []int{-1, 0, 10000, 10001} {
						refuses(t, p, over, g, fuel, why)
					}
				}
			}
		}
	}
}

// The three errors of what stands beside the program, each beside those that come later.
func TestRefused(t *testing.T) {
	fuels := append([]int{0, 1, 100, 10000}, far...)
	for _, p := range []prog{nil, {}, fixture.Source(t, inc), fixture.Source(t, "while 1 { }"), fixture.Source(t, "[99] := 1;")} {
		for _, g := range []int{0, 4096, 4097} {
			for _, over := range []int{17, 18, 32, 1000} {
				for _, fuel := range fuels {
					refuses(t, p, over, g, fuel, api.ErrObjects)
				}
			}
		}
		for _, over := range []int{0, 1, 16} {
			for _, g := range []int{4097, 4098, 10000} {
				for _, fuel := range fuels {
					refuses(t, p, over, g, fuel, api.ErrGiven)
				}
			}
			for _, g := range []int{0, 1, 4096} {
				for _, fuel := range far {
					refuses(t, p, over, g, fuel, api.ErrFuel)
				}
			}
		}
	}
}

// The limits themselves are no errors.
func TestLimits(t *testing.T) {
	over, left := make(objects, api.MaxMap), make(objects, api.MaxMap)
	over[15], left[15] = 3, 4
	g := make(given, api.MaxGiven)
	p := fixture.Source(t, "[15] := [15] + 1;")
	is(t, p, over, g, api.MaxFuel, alone(api.EndCommit, 0, 6, left...))
	is(t, p, over, g, 0, alone(api.EndNone, 0, 0, over...))
	runs(t, strings.Repeat("abort;", 512), over, g, alone(api.EndUser, 0, 1, over...))
	runs(t, "if 0 { "+strings.Repeat("abort;", 508)+" } return 7;", over, g, alone(api.EndCommit, 7, 4, over...))
	ended(t, returns(nested(22, source.Not, num(0))), nil, nil, alone(api.EndCommit, 0, 24))
	eight, sum := "", "0"
	for _, w := range strings.Fields("a b c d e f g abcdefghijklmnop") {
		eight, sum = eight+w+" := 1;", sum+" + "+w
	}
	commits(t, eight+"return "+sum+";", nil, nil, 8)
	// as many reads as there can be, with little else: each tells the number by which the object is released again
	over[0] = 9
	for k := range g {
		g[k] = use(0)
	}
	g[3150] = use(77)
	loop := "x := 21; while x { " + strings.Repeat("release [[0]];", 150) + " x := x - 1; } return [0];"
	commits(t, loop, over, g, 77, over...)
	commits(t, loop, over, g[:3151], 77, over...)
	commits(t, loop, over, g[:3150], 9, over...)
}

// The empty program ends with every fuel, 0 among them.
func TestEmptyProgram(t *testing.T) {
	for _, p := range []prog{nil, {}} {
		for _, over := range []objects{nil, {}, {3}, make(objects, 16)} {
			for _, fuel := range []int{0, 1, 10000} {
				is(t, p, over, given{use(1)}, fuel, alone(api.EndCommit, 0, 0, over...))
			}
		}
	}
}
