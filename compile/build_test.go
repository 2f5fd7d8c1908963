package compile_test

import (
	"slices"
	"strings"
	"testing"

	"braid/api"
	"braid/compile"
	"braid/fixture"
	"braid/source"
)

// builds looks at the program of a text: it is Tidy's of Compile's.
func builds(t *testing.T, from string) program {
	t.Helper()
	code, f := compile.Build(from)
	if want := tidied(t, compiles(t, fixture.Source(t, from))); f != (source.Fault{}) || code == nil || !slices.Equal(code, want) {
		t.Fatalf("Build(%q) = %q, %+v, want %q", from, text(code), f, text(want))
	}
	return code
}

// faulty looks that Build answers no program, and that fault.
func faulty(t *testing.T, from string, e api.Errno, line, col int) {
	t.Helper()
	if code, f := compile.Build(from); code != nil || f != (source.Fault{Err: e, Line: line, Col: col}) {
		t.Errorf("Build(%.200q) = %q, %+v, want %d at %d, %d", from, text(code), f, e, line, col)
	}
}

func TestBuild(t *testing.T) {
	for from, parted := range map[string]string{
		"":                                  "",
		" # nothing\n\n":                    "",
		"return 5;":                         "done 5",
		"return 5; abort;":                  "done 5",
		"x := x; return x;":                 "done r0",
		"if a != b { } else { abort; }":     "if r0 == r1 l / goto e / l: quit / e:",
		"while 1 { [0] := [0] + 1; }":       "s: get r0 @0 / add r0 r0 1 / put @0 r0 / goto s",
		"while 0 { [0] := 1; } return 2;":   "done 2",
		"while 1 { }":                       "s: goto s",
		"if 1 { abort; } else { [0] := 1;}": "quit",
		"if [0] { return 1; } else { return 2; } return 3;": "get r0 @0 / if r0 == 0 l / done 1 / l: done 2",
		"if a { if b { abort; } else { } } return 1;":       "if r0 == 0 e / if r1 == 0 e / quit / e: done 1",
		"while a { if b { release [1]; } }":                 "s: if r0 == 0 e / if r1 == 0 s / drop @1 / goto s / e:",
		"x := [0] + 1; [0] := x; return x;":                 "get r1 @0 / add r1 r1 1 / let r0 r1 / put @0 r0 / done r0",
	} {
		if code, want := builds(t, from), coded(t, parted); !slices.Equal(code, want) {
			t.Errorf("Build(%q) = %q, want %q", from, text(code), text(want))
		}
	}
}

// A fault of each kind, as source.Parse has it, with its line and column.
func TestBuildOfFaultyTexts(t *testing.T) {
	faulty(t, "x := 1;\ny = 2;", api.ErrToken, 2, 3)
	faulty(t, "x := 1", api.ErrToken, 1, 7)
	faulty(t, "x := 1\n", api.ErrToken, 2, 1)
	faulty(t, "}", api.ErrToken, 1, 1)
	faulty(t, "x := a < b == c;", api.ErrToken, 1, 12)
	faulty(t, "\n\n\tabort; ?", api.ErrToken, 3, 9)
	faulty(t, strings.Repeat(" ", source.MaxSource+1), api.ErrSource, 0, 0)
	faulty(t, "a := 1; b := 1; c := 1; d := 1; e := 1; f := 1; g := 1; h := 1; i := 1;", api.ErrNames, 0, 0)
	faulty(t, "return "+strings.Repeat("-", 23)+"0;", api.ErrDeep, 0, 0)
	faulty(t, strings.Repeat("abort;", 513), api.ErrBig, 0, 0)
	// one of the text's stands ahead of those of Compile
	faulty(t, strings.Repeat("abort;", 65)+"?", api.ErrToken, 1, 65*6+1)
	for _, bad := range []string{"", ";", "x :=", "if a { abort; ", "[0] := 1;; ", "return", "X := 1;", "take [0];", "x := 007;"} {
		p, want := source.Parse(bad)
		if code, f := compile.Build(bad); f != want || want.Err != api.OK && code != nil {
			t.Errorf("Build(%q) = %q, %+v, and Parse %+v, %+v", bad, text(code), f, p, want)
		}
	}
}

// What Compile refuses has no place in the text, even where what Tidy would leave could be a program.
func TestBuildOfWhatIsRefused(t *testing.T) {
	deep := strings.Repeat("[0] + (", 16) + "[0]" + strings.Repeat(")", 16)
	faulty(t, "return "+deep+";", api.ErrRegs, 0, 0)
	faulty(t, "return 1;\nreturn "+deep+";", api.ErrRegs, 0, 0)
	faulty(t, strings.Repeat("abort;", 65), api.ErrLength, 0, 0)
	faulty(t, strings.Repeat("x := x;\n", 65), api.ErrLength, 0, 0)
	faulty(t, strings.Repeat("abort;", 65)+"return "+deep+";", api.ErrRegs, 0, 0)
	if code := builds(t, strings.Repeat("abort;", 64)); len(code) != 1 {
		t.Errorf("%q", text(code))
	}
	builds(t, "return "+deep[len("[0] + ("):len(deep)-1]+";")
}

// Texts of thrown programs.
func TestBuildOfThrown(t *testing.T) {
	t.Parallel()
	d := fixture.NewDice()
	seen := map[api.Errno]int{}
	for range 2000 {
		p := fixture.Tree(&d, d.Below(fixture.Pick(&d, 12, 40, 90)), 3)
		if d.Below(10) == 0 {
			p = append(p, returns(towers(d.Below(20), num(1)))...)
		}
		from, e := source.Print(p)
		if e != api.OK {
			continue
		}
		_, e = compile.Compile(p)
		seen[e]++
		if e != api.OK {
			faulty(t, from, e, 0, 0)
			continue
		}
		builds(t, from)
		cut := from[:d.Below(len(from)+1)]
		if _, f := source.Parse(cut); f.Err != api.OK {
			faulty(t, cut, f.Err, f.Line, f.Col)
			seen[f.Err]++
		}
	}
	if seen[api.OK] < 1000 || seen[api.ErrRegs] < 20 || seen[api.ErrLength] < 50 || seen[api.ErrToken] < 500 {
		t.Errorf("answered: %v", seen)
	}
}
