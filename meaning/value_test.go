package meaning_test

import (
	"math"
	"strings"
	"testing"

	"braid/api"
	"braid/fixture"
	"braid/source"
)

// Every operator over every pair of the ends, by names, by objects, by given reads and by numbers.
func TestOperators(t *testing.T) {
	for _, op := range strings.Fields(signs) {
		e := two(name("a"), op, name("b"))
		byObjects := returns(two(one(source.Object, num(0)), op, one(source.Taken, num(1))))
		byGiven := returns(two(one(source.Object, num(0)), op, one(source.Object, num(1))))
		for _, a := range ends {
			for _, b := range ends {
				want := fixture.Combined(op, a, b)
				evals(t, e, []string{"a", "b"}, []int64{a, b}, want)
				evals(t, two(fixture.Number(a), op, fixture.Number(b)), nil, nil, want)
				for p, over := range map[*prog]objects{&byObjects: {a, b}, &byGiven: {4, 4}} {
					r := answer(t, *p, over, given{use(a), use(b)}, 100)
					if !alike(r, alone(api.EndCommit, want, 0, over...)) {
						t.Errorf("%d %s %d = %+v, want %d", a, op, b, r, want)
					}
				}
			}
		}
	}
}

// Those that the chapters name, by hand.
func TestOperatorsByHand(t *testing.T) {
	const least, most = math.MinInt64, math.MaxInt64
	names := []string{"a", "b"}
	for _, c := range []struct {
		text string
		a, b int64
		want int64
	}{
		{"a + b", most, 1, least}, {"a + b", least, -1, most}, {"a - b", least, 1, most}, {"a - b", 0, least, least},
		{"a * b", least, -1, least}, {"a * b", 1 << 62, 2, least}, {"a * b", 3037000500, 3037000500, -9223372036709301616},
		{"a / b", 7, 0, 0}, {"a / b", least, 0, 0}, {"a / b", least, -1, least}, {"a / b", -7, 2, -3}, {"a / b", 7, -2, -3}, {"a / b", 1, most, 0},
		{"a % b", 7, 0, 7}, {"a % b", least, 0, least}, {"a % b", least, -1, 0}, {"a % b", -7, 2, -1}, {"a % b", 7, -2, 1},
		{"a << b", 1, 63, least}, {"a << b", 5, 64, 5}, {"a << b", 5, 65, 10}, {"a << b", 3, -1, least}, {"a << b", 5, 0, 5}, {"a << b", 1, least, 1},
		{"a >> b", -8, 1, -4}, {"a >> b", -8, -1, -1}, {"a >> b", 8, 64, 8}, {"a >> b", least, 63, -1}, {"a >> b", most, 63, 0}, {"a >> b", 8, -62, 2},
		{"a & b", -1, 6, 6}, {"a | b", 1, 6, 7}, {"a ^ b", -1, 6, -7}, {"min(a, b)", least, most, least}, {"max(a, b)", least, most, most}, {"min(a, b)", -1, 1, -1}, {"max(a, b)", -1, 1, 1},
		{"a == b", 3, 3, 1}, {"a == b", 3, 4, 0}, {"a != b", 3, 3, 0}, {"a != b", 3, 4, 1}, {"a < b", 3, 3, 0}, {"a < b", least, most, 1}, {"a < b", most, least, 0},
		{"a <= b", 3, 3, 1}, {"a <= b", 4, 3, 0}, {"a > b", 3, 3, 0}, {"a > b", 4, 3, 1}, {"a >= b", 3, 3, 1}, {"a >= b", 3, 4, 0},
		{"a || b", 0, 0, 0}, {"a || b", 5, 0, 1}, {"a || b", 0, -5, 1}, {"a || b", least, 7, 1}, {"a && b", 5, 7, 1}, {"a && b", -1, least, 1}, {"a && b", 5, 0, 0}, {"a && b", 0, 5, 0},
		{"-a", least, 0, least}, {"-a", most, 0, least + 1}, {"-a", 0, 0, 0}, {"-a", -5, 0, 5}, {"--a", least, 0, least},
		{"!a", 0, 0, 1}, {"!a", 1, 0, 0}, {"!a", -1, 0, 0}, {"!a", least, 0, 0}, {"!!a", 9, 0, 1},
	} {
		evals(t, expr(t, c.text), names, []int64{c.a, c.b}, c.want)
		commits(t, "a := [0]; b := [1]; return "+c.text+";", objects{c.a, c.b}, nil, c.want, c.a, c.b)
		commits(t, "a := [0]; b := [1]; [1] := "+c.text+";", objects{c.a, c.b}, nil, 0, c.a, c.want)
	}
}

// Minus and Not over the ends.
func TestMinusAndNot(t *testing.T) {
	for _, n := range append(ends, -5, 9, 1<<40) {
		for range 2 {
			evals(t, one(source.Minus, name("a")), []string{"a"}, []int64{n}, fixture.Applied("sub", 0, n))
			evals(t, one(source.Not, name("a")), []string{"a"}, []int64{n}, fixture.Combined("==", n, 0))
			commits(t, "return -[0];", objects{n}, nil, fixture.Applied("sub", 0, n), n)
			commits(t, "return !take [0];", objects{n}, nil, fixture.Combined("==", n, 0), n)
			n = -n
		}
	}
}

// A test is passed by every number but 0.
func TestTests(t *testing.T) {
	for _, n := range ends {
		want := map[bool]int64{true: 1, false: 2}[n != 0]
		commits(t, "if [0] { return 1; } else { return 2; }", objects{n}, nil, want, n)
		commits(t, "while [0] { return 1; } return 2;", objects{n}, nil, want, n)
		commits(t, "if ![0] { return 2; } else { return 1; }", objects{n}, nil, want, n)
		commits(t, "while ![0] { return 2; } return 1;", objects{n}, nil, want, n)
	}
}

// Variables: 0 at the beginning, each its own, the last number that it was assigned; they are told by name.
func TestVariables(t *testing.T) {
	commits(t, "return x;", nil, nil, 0)
	commits(t, "x := x + 1; return x;", nil, nil, 1)
	commits(t, "y := x; x := 3; return y * 10 + x;", nil, nil, 3)
	commits(t, "x := 1; x := 2; y := x; x := 3; return y * 10 + x;", nil, nil, 23)
	commits(t, "if 0 { x := 5; } return x;", nil, nil, 0)
	commits(t, "if 1 { x := 5; } return x;", nil, nil, 5)
	commits(t, "while x < 5 { x := x + 2; } return x;", nil, nil, 6)
	commits(t, "a := 1; aa := 2; aaa := 3; a1 := 4; abcdefghijklmnop := 5; abcdefghijklmno := 6; return a * 100000 + aa * 10000 + aaa * 1000 + a1 * 100 + abcdefghijklmnop * 10 + abcdefghijklmno;", nil, nil, 123456)
	commits(t, "x := 1; y := 2; z := x; x := y; y := z; return x * 10 + y;", nil, nil, 21)
	for _, n := range ends {
		commits(t, "x := take [0]; return x;", objects{n}, nil, n, n)
		commits(t, "x := [0]; y := x; [1] := y;", objects{n, 0}, nil, 0, n, n)
	}
}

// Return's number at its edges, in the midst of blocks, and what stands behind it is never come to.
func TestReturn(t *testing.T) {
	for _, n := range ends {
		p := append(returns(fixture.Number(n)), source.Stmt{Kind: source.Abort})
		a := answer(t, p, objects{5}, nil, 100)
		if !alike(a, alone(api.EndCommit, n, 0, 5)) {
			t.Errorf("%s = %+v", asked(p, objects{5}, nil, 100), a)
		}
		commits(t, "[1] := 8; return [0];", objects{n, 7}, nil, n, n, 8)
		commits(t, "[1] := 8; return [0]; [1] := 9;", objects{3, 7}, given{use(n)}, n, 3, 8)
	}
	for _, around := range []string{"R", "if 1 { R }", "if 0 { abort; } else { R }", "while 1 { R }", "if 1 { if 1 { while 1 { R abort; } } abort; }", "while x < 3 { x := x + 1; if x == 3 { R } }", "while 1 { while 1 { while 1 { R } } }"} {
		for text, want := range map[string]api.Alone{
			"return [0] + 1;": alone(api.EndCommit, 10, 0, 9, 7),
			"return 0;":       alone(api.EndCommit, 0, 0, 9, 7),
			"abort;":          alone(api.EndUser, 0, 0, 5, 7),
			"return [2];":     alone(api.EndBad, 0, 0, 5, 7),
			"release [-1];":   alone(api.EndBad, 0, 0, 5, 7),
			"[2] := 1;":       alone(api.EndBad, 0, 0, 5, 7),
		} {
			p := fixture.Source(t, "[0] := 9; "+strings.ReplaceAll(around, "R", text+" [1] := 4;")+" [1] := 3; abort;")
			a := answer(t, p, objects{5, 7}, nil, 200)
			if !alike(a, want) {
				t.Errorf("%s = %+v, want %+v", asked(p, objects{5, 7}, nil, 200), a, want)
			}
			ended(t, p, objects{5, 7}, nil, a)
		}
	}
}

// If goes one way of two, behind either the run goes on.
func TestIf(t *testing.T) {
	for _, c := range []struct {
		text string
		want int64
	}{
		{"if 1 { x := 1; } return x;", 1},
		{"if 0 { x := 1; } return x;", 0},
		{"if 1 { x := 1; } else { x := 2; } return x;", 1},
		{"if 0 { x := 1; } else { x := 2; } return x;", 2},
		{"if 0 { x := 1; } else if 1 { x := 2; } else { x := 3; } return x;", 2},
		{"if 0 { x := 1; } else if 0 { x := 2; } else { x := 3; } return x;", 3},
		{"if x == 0 { x := 1; } if x == 1 { x := x + 6; } return x;", 7},
		{"if !x { x := 1; } else { x := 9; } return x;", 1},
		{"if 1 { if 0 { x := 1; } else { x := 2; } y := x; } return y;", 2},
		{"x := 3; if x { x := 0; if x { y := 1; } else { y := 2; } } return y;", 2},
	} {
		commits(t, c.text, nil, nil, c.want)
	}
}

// While goes on as long as its test is not 0, which is evaluated anew each time.
func TestWhile(t *testing.T) {
	commits(t, "while 0 { x := 1; } return x;", nil, nil, 0)
	commits(t, "while x == 0 { x := 1; y := y + 1; } return y;", nil, nil, 1)
	commits(t, "x := -3; while x { x := x + 1; y := y + 1; } return y;", nil, nil, 3)
	commits(t, "while [0] < 9 { [0] := [0] * 2; } return [0];", objects{1}, nil, 16, 16)
	commits(t, "while x < 4 { y := 0; while y < x { y := y + 1; z := z + 1; } x := x + 1; } return z;", nil, nil, 6)
	commits(t, "while x < 4 { x := x + 1; if x == 2 { while x < 3 { x := x + 5; } } } return x;", nil, nil, 7)
	// each test reads anew what was released
	commits(t, "while [0] { release [0]; x := x + 1; } return x;", objects{0}, given{use(5), use(6), use(7), use(0), use(1)}, 3, 0)
	commits(t, "while [0] { release [0]; x := x + 1; } return x;", objects{0}, given{use(5), use(6)}, 2, 0)
}
