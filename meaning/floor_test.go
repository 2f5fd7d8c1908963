package meaning_test

import (
	"fmt"
	"math"
	"slices"
	"testing"

	"braid/api"
	"braid/fixture"
	"braid/meaning"
	"braid/source"
)

// inc adds 1 to object 0: the chapter's own program.
const inc = "[0] := [0] + 1; return [0];"

// signs are the chapter's operators.
const signs = fixture.LazySigns + " " + fixture.Relations + " " + fixture.Sums

// ends are numbers at which operators and relations turn.
var ends = []int64{math.MinInt64, math.MinInt64 + 1, -65, -64, -2, -1, 0, 1, 2, 3, 7, 63, 64, 65, math.MaxInt64 - 1, math.MaxInt64}

// far are numbers that no fuel has.
var far = []int{-1, api.MaxFuel + 1, -2, -api.MaxFuel, math.MinInt, math.MinInt32, math.MaxInt32, math.MaxInt, 1 << 32}

type objects = []int64

type given = []api.Given

type prog = []source.Stmt

func use(n int64) api.Given { return api.Given{Use: true, Value: n} }

func alone(outcome int, result int64, count int, left ...int64) api.Alone {
	return api.Alone{Outcome: outcome, Result: result, Count: count, Objects: left}
}

func same(a, b api.Alone) bool {
	return a.Count == b.Count && alike(a, b)
}

// alike is the same but for the Count.
func alike(a, b api.Alone) bool {
	return a.Outcome == b.Outcome && a.Result == b.Result && slices.Equal(a.Objects, b.Objects)
}

// text is a program's text, as Print tells it.
func text(p prog) string {
	s, _ := source.Print(p)
	return s
}

// asked is what a run is asked for, its lists no longer than one may read.
func asked(p prog, over objects, g given, fuel int) string {
	return fmt.Sprintf("Run(%.1000q, %v, %v (%d), %d)", text(p), over, g[:min(len(g), 9)], len(g), fuel)
}

// answer is Run's, where nothing is refused; what is handed in must be as it was.
func answer(t *testing.T, p prog, over objects, g given, fuel int) api.Alone {
	t.Helper()
	p2, over2, g2 := fixture.CopiedTree(p), slices.Clone(over), slices.Clone(g)
	a, e := meaning.Run(p, over, g, fuel)
	if e != api.OK || len(a.Objects) != len(over) {
		t.Fatalf("%s = %+v, %d", asked(p, over, g, fuel), a, e)
	}
	if !fixture.SameTree(p, p2) || !slices.Equal(over, over2) || !slices.Equal(g, g2) {
		t.Fatalf("%s has changed what it was given", asked(p2, over2, g2, fuel))
	}
	return a
}

// is looks at a run with one fuel.
func is(t *testing.T, p prog, over objects, g given, fuel int, want api.Alone) {
	t.Helper()
	if a := answer(t, p, over, g, fuel); !same(a, want) {
		t.Errorf("%s = %+v, want %+v", asked(p, over, g, fuel), a, want)
	}
}

// ended looks at a run that ends: with its Count as fuel, and with more; with every fuel below it does not.
func ended(t *testing.T, p prog, over objects, g given, want api.Alone) {
	t.Helper()
	for fuel := range want.Count {
		is(t, p, over, g, fuel, alone(api.EndNone, 0, fuel, over...))
	}
	for _, fuel := range []int{want.Count, want.Count + 1, want.Count + 2, api.MaxFuel - 1, api.MaxFuel} {
		is(t, p, over, g, min(fuel, api.MaxFuel), want)
	}
}

// runs looks at the run of a text, at all fuels.
func runs(t *testing.T, text string, over objects, g given, want api.Alone) {
	t.Helper()
	ended(t, fixture.Source(t, text), over, g, want)
}

// commits looks at a run with fuel enough that commits: its result and what it leaves.
func commits(t *testing.T, text string, over objects, g given, result int64, left ...int64) {
	t.Helper()
	p := fixture.Source(t, text)
	a := answer(t, p, over, g, api.MaxFuel)
	if !alike(a, alone(api.EndCommit, result, 0, left...)) {
		t.Errorf("%s = %+v, want the result %d and %v", asked(p, over, g, api.MaxFuel), a, result, left)
	}
}

// refuses looks that Run answers an error, beside a zero Alone.
func refuses(t *testing.T, p prog, over, g, fuel int, want api.Errno) {
	t.Helper()
	if a, e := meaning.Run(p, make(objects, over), make(given, g), fuel); e != want || a.Objects != nil || !same(a, api.Alone{}) {
		t.Errorf("Run of %d statements, %d objects, %d given reads, fuel %d = %+v, %d, want %d", len(p), over, g, fuel, a, e, want)
	}
}

// expr is the expression of a text.
func expr(t *testing.T, text string) source.Expr {
	t.Helper()
	return fixture.Source(t, "return "+text+";")[0].A
}

// evals looks at what an expression is.
func evals(t *testing.T, e source.Expr, names []string, values []int64, want int64) {
	t.Helper()
	e2, names2, values2 := fixture.CopiedExpr(e), slices.Clone(names), slices.Clone(values)
	if n, why := meaning.Eval(e, names, values); n != want || why != api.OK {
		t.Errorf("Eval(%s, %q, %v) = %d, %d, want %d", text(prog{{Kind: source.Return, A: e}}), names, values, n, why, want)
	}
	if !fixture.SameExpr(e, e2) || !slices.Equal(names, names2) || !slices.Equal(values, values2) {
		t.Errorf("Eval has changed what it was given: %+v, %q, %v", e, names, values)
	}
}

// evalRefuses looks that Eval answers an error, beside 0.
func evalRefuses(t *testing.T, e source.Expr, names []string, values []int64, want api.Errno) {
	t.Helper()
	if n, why := meaning.Eval(e, names, values); n != 0 || why != want {
		t.Errorf("Eval(%.200s, %.200q, %v) = %d, %d, want %d", text(prog{{Kind: source.Return, A: e}}), names, values, n, why, want)
	}
}

// Short names for what stands in package fixture.
var (
	name   = fixture.Name
	one    = fixture.Unary
	two    = fixture.Binary
	nested = fixture.Nested

	returns = fixture.Returns
)

func num(n int64) source.Expr { return source.Expr{Kind: source.Number, Num: n} }

// badNumbers are numbers that no object has where there are so many.
func badNumbers(many int) []int64 {
	n := int64(many)
	return []int64{n, n + 1, -1, -2, -n - 1, 16, 17, 255, 256, 1 << 16, 1 << 32, 1<<32 + 1, -1 << 32, math.MaxInt32, math.MinInt32, math.MaxInt64, math.MaxInt64 - 1, math.MinInt64, math.MinInt64 + 1}
}
