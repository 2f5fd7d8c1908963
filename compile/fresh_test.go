package compile_test

import (
	"runtime"
	"slices"
	"testing"

	"braid/api"
	"braid/compile"
	"braid/fixture"
	"braid/lang"
	"braid/source"
)

// sample has each kind of statement and of expression.
const sample = "x := min(1, [y]) + -2; [x + 2] := take [!y] * 3 - (x < 4); while x == 0 - 1 && ![5 * x + 5] { release [y]; x := x + 1; if z { abort; } else { [2] := 1; } } return [0] || 1;"

// untidied has each thing that Tidy takes out.
const untidied = "if 1 < 2 a / quit / a: let r1 r1 / goto b / c: drop @1 / b: if r0 == 0 d / if r2 == 1 e / e: goto d / quit / d: get r0 @0 / if r0 != 0 b / x: goto y / y: goto x"

// R3: what is handed in stays as it was, the room behind it too, whatever is answered.
func TestHandedIn(t *testing.T) {
	for _, p := range []prog{
		fixture.Source(t, sample), fixture.Source(t, "return 1;"), slices.Repeat(prog{aborts}, 65), returns(towers(17, num(1))),
		returns(source.Expr{}), fixture.Assigns(9), append(fixture.Assigns(3), fixture.Source(t, sample)...),
	} {
		own := fixture.RoomyTree(p)
		kept := fixture.WholeTree(own)
		for range 2 {
			compile.Compile(own)
		}
		if !fixture.SameTree(fixture.WholeTree(own), kept) || !fixture.SameTree(own, p) {
			t.Errorf("Compile(%q) has changed what it was given", said(p))
		}
	}
	for _, code := range []program{coded(t, untidied), coded(t, "quit"), {{Code: 99}}, make(program, 70), compiles(t, fixture.Source(t, sample))} {
		own := fixture.Roomy(code, lang.Instr{Code: lang.Done, X: fixture.Num(7)})
		kept := slices.Clone(own[:cap(own)])
		for range 2 {
			compile.Tidy(own)
		}
		if !slices.Equal(own[:cap(own)], kept) {
			t.Errorf("Tidy(%q) has changed what it was given: %q", text(code), text(own))
		}
	}
}

// R3: what is answered is the caller's, its spare room too; what was handed in is not kept, and may be changed later.
func TestAnswersAreNew(t *testing.T) {
	other := lang.Instr{Code: lang.Done, X: fixture.Num(77)}
	p := fixture.Source(t, sample)
	first, second, want := compiles(t, p), compiles(t, p), compiles(t, fixture.Source(t, sample))
	fixture.Full(first, other)
	fixture.ScribbledTree(p)
	if !slices.Equal(second, want) || !slices.Equal(compiles(t, fixture.Source(t, sample)), want) {
		t.Errorf("Compile: %q behind a change of an answer and of what was handed in, want %q", text(second), text(want))
	}
	for _, parted := range []string{untidied, "quit", "x: goto x", "let r1 5 / get r1 @0"} {
		code := coded(t, parted)
		first, second, want := tidies(t, code), tidies(t, code), tidies(t, coded(t, parted))
		fixture.Full(first, other)
		if !slices.Equal(code, coded(t, parted)) {
			t.Errorf("Tidy(%q): its answer shares memory with what was handed in", parted)
		}
		fixture.Full(code, other)
		if !slices.Equal(second, want) || !slices.Equal(tidies(t, coded(t, parted)), want) {
			t.Errorf("Tidy(%q): %q behind a change of an answer and of what was handed in", parted, text(second))
		}
	}
	one, _ := compile.Build(sample)
	two, _ := compile.Build(sample)
	all := slices.Clone(two)
	fixture.Full(one, other)
	three, _ := compile.Build(sample)
	if !slices.Equal(two, all) || !slices.Equal(three, all) {
		t.Errorf("Build: %q and %q behind a change of an answer, want %q", text(two), text(three), text(all))
	}
}

// asked is something that is asked for, with what it answers.
type asked struct {
	prog  prog
	text  string
	code  program
	tidy  program
	error api.Errno
}

// R4, R6: the same answers, however often they are asked for and by how many at once, and no goroutine is left.
func TestTheSameAgain(t *testing.T) {
	d := fixture.NewDice()
	var list []asked
	for range 60 {
		a := asked{prog: fixture.Tree(&d, d.Below(80), 3)}
		a.text = said(a.prog)
		if a.code, a.error = plainCompile(t, a.prog); a.error == api.OK {
			a.tidy = tidied(t, a.code)
		}
		list = append(list, a)
	}
	ask := func() {
		for _, a := range list {
			if code, e := compile.Compile(a.prog); e != a.error || !slices.Equal(code, a.code) {
				t.Errorf("Compile(%q) = %q, %d", a.text, text(code), e)
			}
			if code, f := compile.Build(a.text); f != (source.Fault{Err: a.error}) || !slices.Equal(code, a.tidy) {
				t.Errorf("Build(%q) = %q, %+v", a.text, text(code), f)
			}
			if code, e := compile.Tidy(a.code); e != api.OK || !slices.Equal(code, a.tidy) {
				t.Errorf("Tidy(%q) = %q, %d", text(a.code), text(code), e)
			}
		}
	}
	fixture.OverAgain(t, runtime.NumGoroutine, 10, ask)
}

// The samples by themselves: over maps and given reads.
func TestSamples(t *testing.T) {
	p := fixture.Source(t, sample)
	code, messy := compiles(t, p), coded(t, untidied)
	seen := map[int]bool{}
	for _, over := range []objects{{0, 8, 9}, {1, 0, 2}, {0, 0, 0}, {-3, 5, 1}, {7, 7, 7}, {0}, nil} {
		for _, g := range []given{nil, {use(0)}, {use(1), use(0)}, {{}, use(0), use(2)}} {
			seen[meant(t, p, code, over, g).Outcome] = true
			meantBack(t, p, code, over, g)
			sameRun(t, code, tidied(t, code), over, g, 300)
			sameRun(t, messy, tidied(t, messy), over, g, 300)
		}
	}
	if !seen[api.EndCommit] || !seen[api.EndBad] {
		t.Errorf("the sample ends with %v", seen)
	}
}
