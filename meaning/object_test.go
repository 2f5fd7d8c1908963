package meaning_test

import (
	"strings"
	"testing"

	"braid/api"
	"braid/fixture"
	"braid/source"
)

// opening is a program that comes to a place where an object is opened or released.
func opening(place string, object source.Expr) prog {
	read, one := fixture.Unary(source.Object, object), num(1)
	switch place {
	case "read":
		return prog{{Kind: source.Assign, Word: "x", A: read}}
	case "take":
		return prog{{Kind: source.Assign, Word: "x", A: fixture.Unary(source.Taken, object)}}
	case "store":
		return prog{{Kind: source.Store, A: object, B: one}}
	case "release":
		return prog{{Kind: source.Release, A: object}}
	case "left":
		return returns(two(read, "+", fixture.Unary(source.Taken, num(99))))
	case "right":
		return returns(two(num(0), "||", read))
	case "stored":
		return prog{{Kind: source.Store, A: num(0), B: read}}
	case "inner":
		return prog{{Kind: source.Release, A: two(read, "*", num(0))}}
	case "test":
		return prog{{Kind: source.If, A: read, Then: returns(one), Else: returns(one)}}
	case "loop":
		return prog{{Kind: source.While, A: read, Then: returns(one)}}
	}
	return returns(read)
}

// A number that no object has ends the run at every place where one is opened or released, whatever was done ahead of it.
func TestBadObjects(t *testing.T) {
	for _, over := range []objects{nil, {5}, {5, 6}, {5, 6, 7}, make(objects, 16)} {
		for _, place := range strings.Fields("read take store release left right stored inner test loop return") {
			for _, n := range badNumbers(len(over)) {
				if n >= 0 && n < int64(len(over)) {
					continue
				}
				p := opening(place, fixture.Number(n))
				a := answer(t, p, over, given{use(3)}, 100)
				if !alike(a, alone(api.EndBad, 0, 0, over...)) {
					t.Errorf("%s = %+v", asked(p, over, given{use(3)}, 100), a)
				}
				ended(t, p, over, given{use(3)}, a)
				if len(over) > 0 {
					ahead := append(fixture.Source(t, "[0] := 9; x := [0] + 1;"), p...)
					a.Count += 3 + 5
					ended(t, ahead, over, given{use(3)}, a)
				}
			}
		}
	}
}

// Every object can be opened and released, the last one too.
func TestGoodObjects(t *testing.T) {
	for _, many := range []int{1, 2, 3, 16} {
		for x := range many {
			over, left := make(objects, many), make(objects, many)
			for k := range over {
				over[k], left[k] = int64(100+k), int64(100+k)
			}
			p := append(opening("read", num(int64(x))), returns(name("x"))...)
			is(t, p, over, nil, 99, alone(api.EndCommit, over[x], 5, left...))
			p = append(opening("take", num(int64(x))), returns(name("x"))...)
			is(t, p, over, given{use(3)}, 99, alone(api.EndCommit, over[x], 5, left...))
			is(t, opening("release", num(int64(x))), over, nil, 99, alone(api.EndCommit, 0, 2, left...))
			left[x] = 1
			is(t, opening("store", num(int64(x))), over, nil, 99, alone(api.EndCommit, 0, 3, left...))
		}
	}
}

// The object of a Store is looked at behind both evaluations, and opened behind them.
func TestStore(t *testing.T) {
	runs(t, "[3] := [0];", objects{5}, nil, alone(api.EndBad, 0, 4, 5))
	runs(t, "[-1] := 1 + 2 * 3;", objects{5}, nil, alone(api.EndBad, 0, 1+2+5, 5))
	runs(t, "[1] := [9] + 1 + 2;", objects{5}, nil, alone(api.EndBad, 0, 6, 5))
	runs(t, "[take [1]] := [9];", objects{5}, nil, alone(api.EndBad, 0, 3, 5))
	// A is evaluated ahead of B: the given reads go by that
	commits(t, "[[0]] := [1];", objects{0, 1, 2}, given{use(2), use(77)}, 0, 0, 1, 77)
	commits(t, "[[0] - [1]] := [2];", objects{1, 1, 5}, given{{}, {}, use(8)}, 0, 8, 1, 5)
	// B still reads what is not own yet, with what is given
	commits(t, "[0] := [0] + 1;", objects{5}, given{use(40)}, 0, 41)
	commits(t, "[0] := [0] + 1; [0] := [0] + 1; return [0];", objects{5}, given{use(40), use(60)}, 42, 42)
	// what is put is the object's own number from then on, the last one stays
	commits(t, "[0] := 1; [0] := 2; [1] := [0] * 10; [0] := 3;", objects{5, 6}, nil, 0, 3, 20)
	commits(t, "[0] := 7; [0] := [0];", objects{5}, given{use(1)}, 0, 7)
	for _, n := range ends {
		ended(t, prog{{Kind: source.Store, A: num(0), B: name("x")}}, objects{n}, nil, alone(api.EndCommit, 0, 3, 0))
		commits(t, "[1] := [0];", objects{n, 4}, nil, 0, n, n)
		commits(t, "[0] := 4; return [1];", objects{3, n}, nil, n, 4, n)
	}
}

// What a read tells, by how the object stands, and the count of reads by what is given.
func TestReads(t *testing.T) {
	g := given{use(70), use(71), use(72), use(73)}
	for _, c := range []struct {
		text  string
		given given
		want  int64
	}{
		{"return [0];", nil, 5},
		{"return [0];", g, 70},
		{"return [0];", given{{Value: 70}}, 5},
		{"return [0];", given{{}, use(71)}, 5},
		// held: told once more, and no read
		{"x := [0]; return x * 100 + [0];", g, 7070},
		{"x := [0]; x := [0]; return [0] * 100 + [1];", g, 7071},
		{"x := [0] + [0] + [0]; return [1];", g, 71},
		// each object is held by itself, the k-th read takes the k-th given value
		{"x := [0]; y := [1]; return [0] * 100 + [1];", g, 7071},
		{"y := [1]; x := [0]; return [0] * 100 + [1];", g, 7170},
		{"return [1] * 10000 + [2] * 100 + [0];", g, 707172},
		// without Use the map's number, but it counts
		{"return [0] * 10000 + [1] * 100 + [2];", given{use(70), {Value: 71}, use(72)}, 700672},
		{"return [0] * 10000 + [1] * 100 + [2];", given{{}, {}, use(72)}, 50672},
		{"return [0] * 10000 + [1] * 100 + [2];", given{use(70)}, 700607},
		{"return [0] * 10000 + [1] * 100 + [2];", given{use(70), use(71)}, 707107},
		// released: read anew
		{"x := [0]; release [0]; return x * 100 + [0];", g, 7071},
		{"x := [0]; release [0]; return x * 100 + [0];", given{use(70)}, 7005},
		{"x := [0]; release [0]; return x * 100 + [0];", given{{}, use(71)}, 571},
		{"x := [0]; release [1]; return x * 100 + [0];", g, 7070},
		{"x := [0]; release [0]; release [0]; return x * 100 + [0];", g, 7071},
		{"x := [0]; release [0]; x := [1]; return x * 100 + [0];", g, 7172},
		{"x := [0] + [1]; release [1]; return [0] * 10000 + [1] * 100 + [2];", g, 707273},
		{"x := [0]; release [0]; x := [0]; release [0]; return [0];", g, 72},
		// not read: Release does nothing
		{"release [0]; return [0];", g, 70},
		{"release [0]; release [1]; release [2]; return [1];", g, 70},
		// own: its own number, and no read
		{"[0] := 9; return [0];", g, 9},
		{"[0] := 9; x := [0]; return [1];", g, 70},
		{"[0] := 9; x := [0]; release [0]; return x * 100 + [0];", g, 909},
		{"[0] := 9; release [0]; return [0] * 100 + [1];", g, 970},
		{"x := take [0]; return [0] * 100 + [1];", g, 570},
		{"x := take [0]; release [0]; return [0] * 100 + [1];", g, 570},
		// taken: the map's number or its own, never a given one, and no read
		{"return take [0];", g, 5},
		{"x := [0]; return x * 100 + take [0];", g, 7005},
		{"x := [0]; y := take [0]; return [0];", g, 5},
		{"x := [0]; y := take [0]; return [1];", g, 71},
		{"x := [0]; y := take [0]; release [0]; return [0] * 100 + [1];", g, 571},
		{"x := [0]; release [0]; y := take [0]; return y * 100 + [1];", g, 571},
		{"x := take [0]; return take [0] * 100 + [1];", g, 570},
		{"[0] := 9; return take [0] * 100 + [1];", g, 970},
		{"[0] := 9; x := take [0]; [0] := x + 1; return take [0] + [0];", g, 20},
		{"x := [0]; [0] := x + 1; return take [0] * 100 + [1];", g, 7171},
		// what is left out is no read
		{"x := 0 && [0]; return [1];", g, 70},
		{"x := 1 || [0]; return [1];", g, 70},
		{"if 0 { x := [0]; } return [1];", g, 70},
		{"while [0] - 70 { x := [1]; } return [1];", g, 71},
	} {
		p := fixture.Source(t, c.text)
		over := objects{5, 6, 7}
		a := answer(t, p, over, c.given, 200)
		if a.Outcome != api.EndCommit || a.Result != c.want {
			t.Errorf("%s = %+v, want the result %d", asked(p, over, c.given, 200), a, c.want)
		}
		ended(t, p, over, c.given, a)
	}
}

// What stays behind a run that commits: the own numbers, what was taken alone with the map's; what was read stays.
func TestObjectsLeft(t *testing.T) {
	g := given{use(70), use(71)}
	for text, left := range map[string]objects{
		"x := [0];":                             {5, 6, 7},
		"x := take [0];":                        {5, 6, 7},
		"x := [0]; x := take [0];":              {5, 6, 7},
		"x := [0]; [1] := x;":                   {5, 70, 7},
		"[2] := 1;":                             {5, 6, 1},
		"[0] := 1; [1] := 2; [2] := 3;":         {1, 2, 3},
		"x := take [1]; [1] := 2; release [1];": {5, 2, 7},
		"[0] := 1; return 4; [1] := 2;":         {1, 6, 7},
		"while [0] < 100 { [0] := [0] * 2; }":   {140, 6, 7},
		"if [0] == 70 { [2] := [1]; }":          {5, 6, 71},
	} {
		p := fixture.Source(t, text)
		a := answer(t, p, objects{5, 6, 7}, g, 200)
		if !alike(a, alone(api.EndCommit, a.Result, 0, left...)) {
			t.Errorf("%s = %+v, want %v", asked(p, objects{5, 6, 7}, g, 200), a, left)
		}
	}
}

// A run that does not commit leaves the map and tells 0, whatever it had put, taken or read.
func TestNothingLeft(t *testing.T) {
	ahead := "[0] := 1; [1] := take [0] + [2]; x := [3]; release [3];"
	over, g := objects{5, 6, 7, 8}, given{use(70), use(71)}
	for text, outcome := range map[string]int{
		"abort;": api.EndUser, "if [0] { abort; }": api.EndUser, "while 1 { while 1 { [0] := 9; abort; } }": api.EndUser, "abort; return 7;": api.EndUser,
		"x := [4];": api.EndBad, "return 7 + [4];": api.EndBad, "return take [4];": api.EndBad, "[4] := 1;": api.EndBad, "release [4];": api.EndBad, "if [4] { return 1; }": api.EndBad,
		"while 1 { }": api.EndNone, "while 1 { [2] := [2] + 1; }": api.EndNone, "while 1 { while [0] { release [1]; } return 7; }": api.EndNone,
	} {
		p := fixture.Source(t, ahead+text)
		a := answer(t, p, over, g, 500)
		if !alike(a, alone(outcome, 0, 0, over...)) {
			t.Errorf("%s = %+v, want the outcome %d", asked(p, over, g, 500), a, outcome)
		}
	}
}
