package compile_test

import (
	"slices"
	"strings"
	"testing"

	"braid/api"
	"braid/compile"
	"braid/fixture"
	"braid/lang"
	"braid/source"
)

type (
	prog    = []source.Stmt
	program = []lang.Instr
	objects = []int64
	given   = []api.Given
)

// Short names for what stands in package fixture.
var (
	name    = fixture.Name
	num     = fixture.Number
	one     = fixture.Unary
	two     = fixture.Binary
	nested  = fixture.Nested
	returns = fixture.Returns
)

func use(n int64) api.Given { return api.Given{Use: true, Value: n} }

// alike tells whether two runs end the same, whatever they count.
func alike(a, b api.Alone) bool {
	return a.Outcome == b.Outcome && a.Result == b.Result && slices.Equal(a.Objects, b.Objects)
}

// text is a program's, in one line.
func text(code program) string {
	if e, at := lang.Check(code); e != api.OK {
		return "no program: " + lines(code[at:])
	}
	return lines(code)
}

func lines(code program) string {
	s, _ := lang.Print(code)
	return strings.ReplaceAll(strings.TrimSpace(s), "\n", " / ")
}

// said is a source program's text.
func said(p prog) string {
	s, _ := source.Print(p)
	return s
}

// coded is the program of a text whose lines are parted as the chapter parts them.
func coded(t *testing.T, parted string) program {
	t.Helper()
	return fixture.Program(t, strings.ReplaceAll(parted, " / ", "\n"))
}

// compiles is Compile's answer, where nothing is refused; what is handed in must be as it was.
func compiles(t *testing.T, p prog) program {
	t.Helper()
	was := fixture.CopiedTree(p)
	code, e := compile.Compile(p)
	if e != api.OK || code == nil {
		t.Fatalf("Compile(%q) = %q, %d", said(p), text(code), e)
	}
	if e, at := lang.Check(code); e != api.OK {
		t.Fatalf("Compile(%q) is no program at %d: %d", said(p), at, e)
	}
	if !fixture.SameTree(p, was) {
		t.Fatalf("Compile(%q) has changed what it was given", said(was))
	}
	return code
}

// becomes looks at what a text is turned into.
func becomes(t *testing.T, from, parted string) {
	t.Helper()
	p, want := fixture.Source(t, from), coded(t, parted)
	if code := compiles(t, p); !slices.Equal(code, want) {
		t.Errorf("Compile(%q) = %q, want %q", from, text(code), text(want))
	}
}

// refuses looks that Compile answers an error, beside no program.
func refuses(t *testing.T, p prog, want api.Errno) {
	t.Helper()
	if code, e := compile.Compile(p); code != nil || e != want {
		t.Errorf("Compile(%.300q) = %q, %d, want %d", said(p), text(code), e, want)
	}
}

// tidies is Tidy's answer, where nothing is refused; what is handed in must be as it was.
func tidies(t *testing.T, code program) program {
	t.Helper()
	was := slices.Clone(code)
	tidy, e := compile.Tidy(code)
	if e != api.OK || tidy == nil {
		t.Fatalf("Tidy(%q) = %q, %d", text(code), text(tidy), e)
	}
	if !slices.Equal(code, was) {
		t.Fatalf("Tidy(%q) has changed what it was given", text(was))
	}
	return tidy
}

// joined lays a line behind others, of which the last may be a label alone, and of which there may be none.
func joined(lines, next string) string {
	if lines == "" || strings.HasSuffix(lines, ":") {
		return strings.TrimSpace(lines + " " + next)
	}
	return lines + " / " + next
}
