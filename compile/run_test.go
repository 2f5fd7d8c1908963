package compile_test

import (
	"slices"
	"testing"

	"braid/api"
	"braid/compile"
	"braid/fixture"
	"braid/lang"
	"braid/machine"
	"braid/meaning"
	"braid/model"
	"braid/source"
	"braid/word"
)

// runs is a program's run alone, where nothing is refused.
func runs(t *testing.T, code program, over objects, g given, fuel int) api.Alone {
	t.Helper()
	a, e := model.Run(code, over, g, fuel)
	if e != api.OK {
		t.Fatalf("Run(%q, %v, %v, %d) = %d", text(code), over, g, fuel, e)
	}
	return a
}

// means is a source program's run alone.
func means(t *testing.T, p prog, over objects, g given, fuel int) api.Alone {
	t.Helper()
	a, e := meaning.Run(p, over, g, fuel)
	if e != api.OK {
		t.Fatalf("Run(%q, %v, %v, %d) = %d", said(p), over, g, fuel, e)
	}
	return a
}

// sameRun is 25.6's first and second point of one run, and tells how that ended.
func sameRun(t *testing.T, code, tidy program, over objects, g given, fuel int) api.Alone {
	t.Helper()
	a := runs(t, code, over, g, fuel)
	what := func(b api.Alone) {
		t.Helper()
		t.Fatalf("%q over %v, %v: %+v, and tidied %q: %+v", text(code), over, g, a, text(tidy), b)
	}
	_, past := fixture.Alone(code, over, g, fuel)
	_, tidyPast := fixture.Alone(tidy, over, g, fuel)
	if a.Outcome != api.EndNone {
		for _, enough := range []int{a.Count, fuel} {
			if b := runs(t, tidy, over, g, enough); !alike(a, b) || b.Count > a.Count {
				what(b)
			}
		}
		if !slices.Equal(past.Asked, tidyPast.Asked) {
			t.Fatalf("%q over %v, %v asks for %v, tidied %q for %v", text(code), over, g, past.Asked, text(tidy), tidyPast.Asked)
		}
		return a
	}
	if n := len(past.Asked); n > len(tidyPast.Asked) || !slices.Equal(past.Asked, tidyPast.Asked[:n]) {
		t.Fatalf("%q over %v, %v asks for %v, tidied %q for %v", text(code), over, g, past.Asked, text(tidy), tidyPast.Asked)
	}
	if fixture.Circles(code, over, g, fuel) {
		if b := runs(t, tidy, over, g, api.MaxFuel); b.Outcome != api.EndNone {
			what(b)
		}
	}
	return a
}

// messy is a thrown program in which much can be tidied.
func messy(d *fixture.Dice, size, objects int) program {
	code := fixture.Code(d, size, objects)
	for place := range code {
		to := fixture.Pick(d, place+1, place, d.Below(size+1), d.Below(size+1), min(size, place+2))
		switch d.Below(12) {
		case 0:
			code[place] = lang.Instr{Code: lang.Goto, To: to}
		case 1:
			code[place] = lang.Instr{Code: lang.If, X: fixture.Num(int64(d.Below(3))), Rel: word.Rel(1 + d.Below(6)), Y: fixture.Num(int64(d.Below(3))), To: to}
		case 2:
			code[place] = lang.Instr{Code: lang.If, X: fixture.Reg(int64(d.Below(6))), Rel: word.Rel(1 + d.Below(6)), Y: fixture.Num(int64(d.Below(3))), To: to}
		case 3:
			r := d.Below(lang.MaxRegs)
			code[place] = lang.Instr{Code: lang.Let, Dst: r, X: fixture.Reg(int64(r))}
		}
	}
	return code
}

// 25.6 over thrown programs.
func TestTidyOfThrown(t *testing.T) {
	t.Parallel()
	d := fixture.NewDice()
	seen, shorter, circles := map[int]int{}, 0, 0
	for range 2500 {
		over := fixture.Map(&d)
		code := messy(&d, d.Below(fixture.Pick(&d, 4, 12, 30, 65)), len(over))
		tidy := tidied(t, code)
		shorter += min(1, len(code)-len(tidy))
		for k := range 4 {
			if k > 0 {
				over = fixture.Map(&d)
			}
			g := fixture.Given(&d)
			a := sameRun(t, code, tidy, over, g, fixture.Pick(&d, 200, 200, d.Below(20)))
			seen[a.Outcome]++
			if a.Outcome == api.EndNone && fixture.Circles(code, over, g, 200) {
				circles++
			}
		}
	}
	for _, end := range []int{api.EndNone, api.EndCommit, api.EndUser, api.EndBad} {
		if seen[end] < 200 {
			t.Errorf("outcome %d was seen %d times", end, seen[end])
		}
	}
	if shorter < 1500 || circles < 400 {
		t.Errorf("%d are shorter, %d runs came back to where they were", shorter, circles)
	}
}

// thrown is a source program that compiles, with its program.
func thrown(t *testing.T, d *fixture.Dice, objects int, nodes ...int) (prog, program) {
	t.Helper()
	for {
		p := fixture.Tree(d, d.Below(fixture.Pick(d, nodes...)), objects)
		if code, e := compile.Compile(p); e == api.OK {
			return p, code
		}
	}
}

// 25.6 over thrown programs that were compiled.
func TestTidyOfCompiled(t *testing.T) {
	t.Parallel()
	d := fixture.NewDice()
	shorter := 0
	for range 3000 {
		over := fixture.Map(&d)
		_, code := thrown(t, &d, len(over), 12, 40, 70)
		tidy := tidied(t, code)
		shorter += min(1, len(code)-len(tidy))
		for range 3 {
			sameRun(t, code, tidy, over, fixture.Given(&d), 300)
			over = fixture.Map(&d)
		}
	}
	if shorter < 300 {
		t.Errorf("%d are shorter", shorter)
	}
}

// A run that comes back to where it was has no end when it is tidied either, whatever its fuel.
func TestCircles(t *testing.T) {
	for _, parted := range []string{
		"x: goto x", "a: goto b / b: goto a", "x: let r1 r1 / goto x", "x: if 1 < 2 x", "x: if r0 == 0 x / goto x", "get r0 @0 / x: get r0 @0 / goto x",
		"x: drop @0 / goto x", "x: put @0 5 / if 2 < 1 x / goto x", "x: if r0 == 0 y / quit / y: if 3 != 4 x", "x: take r1 @0 / if r2 != 0 e / goto x / e:",
	} {
		code := coded(t, parted)
		tidy := tidied(t, code)
		for _, fuel := range []int{0, 1, 2, 3, 10, 100, api.MaxFuel} {
			if a, b := runs(t, code, objects{1}, nil, fuel), runs(t, tidy, objects{1}, nil, fuel); a.Outcome != api.EndNone || b.Outcome != api.EndNone || b.Count != fuel {
				t.Errorf("%q: %+v, tidied %q: %+v", text(code), a, text(tidy), b)
			}
		}
		if !fixture.Circles(code, objects{1}, nil, 50) || !fixture.Circles(tidy, objects{1}, nil, 50) {
			t.Errorf("%q does not come back", text(code))
		}
	}
}

// meant is 25.8 of one source program over one map, with its first bound, whether it was tidied or not; and that it opens and
// releases the same.
func meant(t *testing.T, p prog, code program, over objects, g given) api.Alone {
	t.Helper()
	m := means(t, p, over, g, api.MaxFuel)
	if enough := 8*m.Count + 8; m.Outcome != api.EndNone && enough <= api.MaxFuel {
		if b := runs(t, code, over, g, enough); !alike(m, b) {
			t.Fatalf("%q over %v, %v: %+v, compiled with a fuel of %d %+v", said(p), over, g, m, enough, b)
		}
	}
	_, past := fixture.Meant(p, over, g, 400)
	_, own := fixture.Alone(code, over, g, 400)
	if n := min(len(past.Asked), len(own.Asked)); !slices.Equal(past.Asked[:n], own.Asked[:n]) {
		t.Fatalf("%q over %v, %v asks for %v, compiled for %v", said(p), over, g, past.Asked, own.Asked)
	}
	return m
}

// meantBack is 25.8's second bound.
func meantBack(t *testing.T, p prog, code program, over objects, g given) {
	t.Helper()
	a := runs(t, code, over, g, api.MaxFuel)
	if enough := 32*a.Count + 32; a.Outcome != api.EndNone && enough <= api.MaxFuel {
		if m := means(t, p, over, g, enough); !alike(a, m) {
			t.Fatalf("%q over %v, %v: compiled %+v, with a fuel of %d %+v", said(p), over, g, a, enough, m)
		}
	}
}

// 25.8 over thrown source programs, compiled and tidied.
func TestCompiledMeans(t *testing.T) {
	t.Parallel()
	d := fixture.NewDice()
	seen := map[int]int{}
	for range 5000 {
		over := fixture.Map(&d)
		p, code := thrown(t, &d, len(over), 4, 12, 40, 70)
		tidy := tidied(t, code)
		for range 2 {
			g := fixture.Given(&d)
			seen[meant(t, p, code, over, g).Outcome]++
			meantBack(t, p, code, over, g)
			meant(t, p, tidy, over, g)
			over = fixture.Map(&d)
		}
	}
	for _, end := range []int{api.EndNone, api.EndCommit, api.EndUser, api.EndBad} {
		if seen[end] < 200 {
			t.Errorf("outcome %d was seen %d times", end, seen[end])
		}
	}
}

// 25.8's bounds where they are narrowest: much is counted for one instruction, or much is done for what is counted once.
func TestBounds(t *testing.T) {
	ands, ors := name("a"), name("a")
	for range 20 {
		ands, ors = two(ands, "&&", name("a")), two(ors, "||", name("a"))
	}
	for _, test := range []source.Expr{
		ands, ors, nested(20, source.Not, name("a")), nested(20, source.Not, num(0)), nested(9, source.Not, two(name("a"), "<", name("b"))),
		one(source.Not, ands), one(source.Not, ors), nested(19, source.Not, two(num(0), "==", num(0))), num(0), num(1),
	} {
		for _, p := range []prog{
			{{Kind: source.If, A: test}},
			{{Kind: source.While, A: test}},
			{{Kind: source.While, A: test, Then: prog{aborts}}},
			{{Kind: source.If, A: test, Then: prog{aborts}, Else: returns(num(1))}},
			returns(test),
			{{Kind: source.Assign, Word: "a", A: num(1)}, {Kind: source.Assign, Word: "c", A: num(9)},
				{Kind: source.While, A: name("c"), Then: prog{{Kind: source.If, A: test}, {Kind: source.Assign, Word: "c", A: two(name("c"), "-", num(1))}}}},
		} {
			code := compiles(t, p)
			meant(t, p, code, nil, nil)
			meantBack(t, p, code, nil, nil)
			meant(t, p, tidied(t, code), nil, nil)
		}
	}
	for n := range 64 {
		p := slices.Repeat(prog{{Kind: source.If, A: num(0)}}, n)
		meant(t, p, compiles(t, p), nil, nil)
		meantBack(t, p, compiles(t, p), nil, nil)
	}
}

// rowsAlone are the rows of a job alone that are no local step without an object.
func rowsAlone(t *testing.T, code program, manager int, over objects) []api.Row {
	t.Helper()
	s := machine.Script{Objects: over, Threads: [][]machine.Job{{{Program: code}}}, Manager: manager, Patience: 3, Picks: make([]int64, 400)}
	r, e := machine.Run(s)
	if e != api.OK {
		t.Fatalf("Run of %q: %d", text(code), e)
	}
	var list []api.Row
	for _, row := range r.Rows {
		if row.Kind != api.RowStutter && (row.Kind != api.RowLocal || row.Phase != api.PhaseNone) {
			row.Step = 0
			list = append(list, row)
		}
	}
	return list
}

// 25.6, 2: as jobs alone the two differ in local rows alone.
func TestRowsAlone(t *testing.T) {
	t.Parallel()
	d := fixture.NewDice()
	for n := range 1500 {
		over := fixture.Map(&d)
		_, code := thrown(t, &d, len(over), 12, 40, 70)
		if n%2 == 0 {
			code = messy(&d, d.Below(40), len(over))
		}
		a, b := rowsAlone(t, code, n%api.Managers, over), rowsAlone(t, tidied(t, code), n%api.Managers, over)
		if n := min(len(a), len(b)); !slices.Equal(a[:n], b[:n]) || len(a) > len(b) {
			t.Fatalf("%q over %v: %d rows, tidied %q %d", text(code), over, len(a), text(tidied(t, code)), len(b))
		}
	}
}
