package meaning_test

import (
	"runtime"
	"slices"
	"testing"

	"braid/api"
	"braid/fixture"
	"braid/meaning"
	"braid/source"
)

// sample has each kind of statement and of expression, over three objects.
const sample = "x := min(1, [y]) + -2; [x + 2] := take [!y] * 3 - (x < 4); while x == 0 - 1 && ![5 * x + 5] { release [y]; x := x + 1; if z { abort; } else { [2] := [2] + 1; } } return [2] * 1000 + [0] || 1;"

// R3: what is handed in stays as it was, the room behind it too, whatever is answered.
func TestHandedIn(t *testing.T) {
	over, g := objects{0, 8, 9}, given{use(0), use(3), {}}
	for _, text := range []string{sample, inc, "[0] := 9; abort;", "[0] := 9; x := [3];", "[0] := 9; while 1 { [1] := [1] + 1; }", "[1] := 3; return 1 + [1];"} {
		p := fixture.Source(t, text)
		for _, fuel := range []int{-1, 0, 7, 300, api.MaxFuel} {
			p2, over2, g2 := fixture.RoomyTree(p), fixture.Roomy(over, 5), fixture.Roomy(g, use(5))
			kept := fixture.WholeTree(p2)
			for range 2 {
				meaning.Run(p2, over2, g2, fuel)
			}
			same := fixture.SameTree(fixture.WholeTree(p2), kept) && fixture.SameTree(p2, p)
			if !same || !slices.Equal(over2[:6], objects{0, 8, 9, 5, 5, 5}) || !slices.Equal(g2[:6], given{use(0), use(3), {}, use(5), use(5), use(5)}) {
				t.Errorf("Run(%q) with fuel %d has changed what it was given: %v, %v", text, fuel, over2[:6], g2[:6])
			}
		}
	}
	for _, e := range []source.Expr{expr(t, "a + b * min(2, -a)"), expr(t, "a + [0]"), num(-1)} {
		for _, names := range [][]string{{"a", "b"}, {"a", "a"}, {"b", "if"}} {
			e2, names2, values := fixture.RoomyExpr(e), fixture.Roomy(names, "room"), fixture.Roomy([]int64{1, 2}, 5)
			kept := fixture.WholeExpr(e2)
			for range 2 {
				meaning.Eval(e2, names2, values)
			}
			if !fixture.SameExpr(fixture.WholeExpr(e2), kept) || !slices.Equal(names2[:5], append(slices.Clone(names), "room", "room", "room")) || !slices.Equal(values[:5], []int64{1, 2, 5, 5, 5}) {
				t.Errorf("Eval has changed what it was given: %+v, %q, %v", e2, names2[:5], values[:5])
			}
		}
	}
}

// R3: what is answered is the caller's, its spare room too; what was handed in is not kept, and may be changed later.
func TestAnswersAreNew(t *testing.T) {
	for text, left := range map[string]objects{inc: {6, 7}, "": {5, 7}, "x := take [0];": {5, 7}, "[0] := 9; abort;": {5, 7}, "x := [9];": {5, 7}, "while 1 { }": {5, 7}} {
		p, over := fixture.Source(t, text), objects{5, 7}
		first := answer(t, p, over, nil, 100)
		second := answer(t, p, over, nil, 100)
		fixture.Full(first.Objects, -1)
		if !slices.Equal(second.Objects, left) || !slices.Equal(over, objects{5, 7}) {
			t.Errorf("%s: %v and %v behind a change of an answer", asked(p, over, nil, 100), second.Objects, over)
		}
		fixture.Full(over, 1000)
		fixture.ScribbledTree(p)
		if !slices.Equal(second.Objects, left) {
			t.Errorf("%q: %v behind a change of what was handed in", text, second.Objects)
		}
	}
	// a list that is handed in with room behind it is not handed back
	over := append(make(objects, 0, 8), 5, 7)
	first := answer(t, fixture.Source(t, inc), over, nil, 100)
	fixture.Full(first.Objects, -1)
	if !slices.Equal(over[:8], objects{5, 7, 0, 0, 0, 0, 0, 0}) {
		t.Errorf("%v", over[:8])
	}
}

// R4, R6: the same answers, however often they are asked for and by how many at once, and no goroutine is left.
func TestTheSameAgain(t *testing.T) {
	d := fixture.NewDice()
	var plays []play
	var wants []api.Alone
	for range 40 {
		p := thrown(&d, 40, 100)
		want, _ := fixture.Meant(p.prog, p.over, p.given, 300)
		plays, wants = append(plays, p), append(wants, want)
	}
	e, names, values := expr(t, "a * 10 + (b || !c)"), []string{"c", "a"}, []int64{3, 4}
	bad := returns(num(-1))
	ask := func() {
		for k, p := range plays {
			if a, why := meaning.Run(p.prog, p.over, p.given, 300); why != api.OK || !same(a, wants[k]) {
				t.Errorf("%s = %+v, %d, want %+v", asked(p.prog, p.over, p.given, 300), a, why, wants[k])
			}
		}
		if a, why := meaning.Run(bad, nil, nil, -1); why != api.ErrTree || !same(a, api.Alone{}) {
			t.Errorf("Run = %+v, %d", a, why)
		}
		if n, why := meaning.Eval(e, names, values); n != 40 || why != api.OK {
			t.Errorf("Eval = %d, %d", n, why)
		}
		if n, why := meaning.Eval(e, names[:1], values); n != 0 || why != api.ErrName {
			t.Errorf("Eval = %d, %d", n, why)
		}
	}
	fixture.OverAgain(t, runtime.NumGoroutine, 20, ask)
}

// The sample by itself: every kind of node, against the plain run.
func TestSample(t *testing.T) {
	p := fixture.Source(t, sample)
	seen := map[int]bool{}
	for _, over := range []objects{{0, 8, 9}, {1, 0, 2}, {0, 0, 0}, {-3, 5, 1}, {7, 7, 7}} {
		for _, g := range []given{nil, {use(0)}, {use(1), use(0)}, {{}, use(0), use(2)}} {
			want, _ := fixture.Meant(p, over, g, 300)
			is(t, p, over, g, 300, want)
			if want.Outcome != api.EndNone {
				ended(t, p, over, g, want)
			}
			seen[want.Outcome] = true
		}
	}
	if !seen[api.EndCommit] {
		t.Error("the sample never commits")
	}
}
