package model_test

import (
	"math"
	"slices"
	"testing"

	"braid/api"
	"braid/fixture"
	"braid/lang"
	"braid/model"
)

// inc adds 1 to object 0: the chapter's own program.
const inc = "get r1 @0\nadd r1 r1 1\nput @0 r1\ndone r1"

// refusedCode is a program that lang.Check refuses.
var refusedCode = []lang.Instr{{Code: lang.Quit, To: 1}}

type objects = []int64

type given = []api.Given

func use(n int64) api.Given { return api.Given{Use: true, Value: n} }

func alone(outcome int, result int64, left objects, count int) api.Alone {
	return api.Alone{Outcome: outcome, Result: result, Objects: left, Count: count}
}

func same(a, b api.Alone) bool {
	return a.Outcome == b.Outcome && a.Result == b.Result && a.Count == b.Count && slices.Equal(a.Objects, b.Objects)
}

// answer is Run's, where nothing is refused; what is handed in must be as it was.
func answer(t *testing.T, code []lang.Instr, over objects, g given, fuel int) api.Alone {
	t.Helper()
	code2, over2, g2 := slices.Clone(code), slices.Clone(over), slices.Clone(g)
	a, e := model.Run(code, over, g, fuel)
	if e != api.OK || len(a.Objects) != len(over) {
		t.Fatalf("Run(%+v, %v, %v, %d) = %+v, %d", code, over, g, fuel, a, e)
	}
	if !slices.Equal(code, code2) || !slices.Equal(over, over2) || !slices.Equal(g, g2) {
		t.Fatalf("Run(%+v, %v, %v, %d) has changed what it was given: %+v, %v, %v", code2, over2, g2, fuel, code, over, g)
	}
	return a
}

func runs(t *testing.T, text string, over objects, g given, fuel int, want api.Alone) {
	t.Helper()
	if a := answer(t, fixture.Program(t, text), over, g, fuel); !same(a, want) {
		t.Errorf("Run(%q, %v, %v, %d) = %+v, want %+v", text, over, g, fuel, a, want)
	}
}

// commits looks at a run with fuel enough that commits: its result and what it leaves.
func commits(t *testing.T, text string, over objects, g given, result int64, left objects) {
	t.Helper()
	a := answer(t, fixture.Program(t, text), over, g, api.MaxFuel)
	if !same(a, alone(api.EndCommit, result, left, a.Count)) {
		t.Errorf("Run(%q, %v, %v) = %+v, want the result %d and %v", text, over, g, a, result, left)
	}
}

// refuses looks that Run answers an error, beside a zero Alone.
func refuses(t *testing.T, code []lang.Instr, over objects, g given, fuel int, want api.Errno) {
	t.Helper()
	if a, e := model.Run(code, over, g, fuel); e != want || a.Objects != nil || !same(a, api.Alone{}) {
		t.Errorf("Run of %d instructions, %d objects, %d given reads, fuel %d = %+v, %d, want %d", len(code), len(over), len(g), fuel, a, e, want)
	}
}

// badObjects are numbers that no object has where there are so many.
func badObjects(many int) []int64 {
	n := int64(many)
	return []int64{n, n + 1, -1, -2, -n, 15 + n, 16, 17, 255, 256, 1 << 16, 1<<32 + 1, -1 << 32, math.MaxInt32, math.MinInt32, math.MaxInt64, math.MaxInt64 - 1, math.MinInt64, math.MinInt64 + 1}
}
