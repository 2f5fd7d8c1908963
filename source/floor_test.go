package source_test

import (
	"fmt"
	"slices"
	"strings"
	"testing"

	"braid/api"
	"braid/fixture"
	"braid/source"
)

// The chapter's lists, once more.
const (
	keptWords = "release if else while abort return take min max"
	allSigns  = ":= || && == != <= >= << >> ; [ ] { } ( ) , < > + - | ^ * / % & !"
	operators = "|| && == != < <= > >= + - | ^ * / % & << >> min max"
)

// strengths have the operators that stand between their operands: the place is the strength.
var strengths = [6]string{1: "||", 2: "&&", 3: "== != < <= > >=", 4: "+ - | ^", 5: "* / % & << >>"}

// Short names for what stands in package fixture.
var (
	name   = fixture.Name
	one    = fixture.Unary
	two    = fixture.Binary
	nested = fixture.Nested

	assigns = fixture.Assigns
)

func num(n int64) source.Expr { return source.Expr{Kind: source.Number, Num: n} }

func assign(w string, a source.Expr) source.Stmt {
	return source.Stmt{Kind: source.Assign, Word: w, A: a}
}

func returns(a source.Expr) source.Stmt { return source.Stmt{Kind: source.Return, A: a} }

func aborts() source.Stmt { return source.Stmt{Kind: source.Abort} }

// times is a list in which one thing stands so often.
func times[T any](n int, of T) []T { return slices.Repeat([]T{of}, n) }

// reads is the program of a text that has no fault.
func reads(t *testing.T, text string) []source.Stmt {
	t.Helper()
	prog, f := source.Parse(text)
	if f != (source.Fault{}) {
		t.Fatalf("Parse(%.300q) = %s, %+v", text, told(prog), f)
	}
	if e := source.Check(prog); e != api.OK {
		t.Fatalf("Check of %.300q: %d", text, e)
	}
	return prog
}

// says looks that a text is that program.
func says(t *testing.T, text string, want ...source.Stmt) {
	t.Helper()
	if prog := reads(t, text); !fixture.SameTree(prog, want) {
		t.Errorf("Parse(%.300q) = %s, want %s", text, told(prog), told(want))
	}
}

// means looks that the text of an expression is that expression.
func means(t *testing.T, text string, want source.Expr) {
	t.Helper()
	says(t, "return "+text+";", returns(want))
}

// faulty looks that a text has its first fault there.
func faulty(t *testing.T, text string, line, col int) {
	t.Helper()
	prog, f := source.Parse(text)
	if want := (source.Fault{Err: api.ErrToken, Line: line, Col: col}); prog != nil || f != want {
		t.Errorf("Parse(%.300q) = %s, %+v, want %+v", text, told(prog), f, want)
	}
}

// marked looks at a text whose first fault is at the mark ~, which is taken out.
func marked(t *testing.T, text string) {
	t.Helper()
	ahead, behind, ok := strings.Cut(text, "~")
	if !ok {
		t.Fatalf("%q has no mark", text)
	}
	lines := strings.Split(ahead, "\n")
	faulty(t, ahead+behind, len(lines), len(lines[len(lines)-1])+1)
}

// refused looks that a text has a fault that has no place.
func refused(t *testing.T, text string, why api.Errno) {
	t.Helper()
	if prog, f := source.Parse(text); prog != nil || f != (source.Fault{Err: why}) {
		t.Errorf("Parse(%.300q) = %s, %+v, want %d", text, told(prog), f, why)
	}
}

// prints looks that a program has that text, and that the text is the program's.
func prints(t *testing.T, prog []source.Stmt, want string) {
	t.Helper()
	text, e := source.Print(prog)
	if text != want || e != api.OK {
		t.Errorf("Print(%s) = %q, %d, want %q", told(prog), text, e, want)
	}
	says(t, text, prog...)
}

// lays looks that a text is laid out as that other one.
func lays(t *testing.T, text, want string) {
	t.Helper()
	prints(t, reads(t, text), want)
}

// told is the beginning of what a program is, of however many nodes.
func told(prog []source.Stmt) string {
	var text strings.Builder
	var expr func(e source.Expr)
	expr = func(e source.Expr) {
		fmt.Fprintf(&text, "{%d %d %q", e.Kind, e.Num, e.Word)
		for _, a := range e.Args {
			if text.Len() < 300 {
				expr(a)
			}
		}
		text.WriteString("}")
	}
	var list func(list []source.Stmt)
	list = func(stmts []source.Stmt) {
		for _, s := range stmts {
			if text.Len() < 300 {
				fmt.Fprintf(&text, "[%d %q ", s.Kind, s.Word)
				expr(s.A)
				expr(s.B)
				list(s.Then)
				list(s.Else)
				text.WriteString("]")
			}
		}
	}
	list(prog)
	return text.String()
}

// checks looks at what Check says, and that the other calls say it too.
func checks(t *testing.T, prog []source.Stmt, want api.Errno) {
	t.Helper()
	e := source.Check(prog)
	text, p := source.Print(prog)
	names, n := source.Names(prog)
	if e != want || p != want || n != want {
		t.Errorf("Check, Print, Names of %s = %d, %d, %d, want %d", told(prog), e, p, n, want)
	}
	if want != api.OK && (text != "" || names != nil) {
		t.Errorf("%d: Print = %q, Names = %q", want, text, names)
	}
}

// names looks at the names of a program.
func names(t *testing.T, prog []source.Stmt, want ...string) {
	t.Helper()
	if got, e := source.Names(prog); e != api.OK || !slices.Equal(got, want) {
		t.Errorf("Names(%s) = %q, %d, want %q", told(prog), got, e, want)
	}
}
