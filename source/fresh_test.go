package source_test

import (
	"runtime"
	"strings"
	"testing"

	"braid/api"
	"braid/fixture"
	"braid/source"
)

// sample has each kind of statement and of expression, and lists of several lengths.
const sample = "x := min(1, [y]) + -2;\n[x] := take [!y] * 3 - (x < 4);\nif x == y && z {\n\tabort;\n\twhile [x] {\n\t\trelease [y];\n\t\tx := x + 1;\n\t\ty := y + 1;\n\t}\n} else if !z {\n\treturn 5;\n} else {\n\tz := 1;\n\tz := 2;\n\tz := 3;\n}\nreturn x;\n"

// R3: trees that are handed in stay as they were, the room behind their lists too, whatever is answered.
func TestHandedIn(t *testing.T) {
	for _, last := range []source.Stmt{aborts(), returns(num(-1)), returns(nested(40, source.Not, name("x"))), {Kind: source.If, A: num(0), Then: assigns(9)}} {
		prog := append(reads(t, sample), last)
		handed, kept := fixture.RoomyTree(prog), fixture.WholeTree(fixture.RoomyTree(prog))
		for range 2 {
			source.Check(handed)
			source.Print(handed)
			source.Names(handed)
		}
		if !fixture.SameTree(fixture.WholeTree(handed), kept) || !fixture.SameTree(handed, prog) {
			t.Errorf("%s, want %s", told(handed), told(prog))
		}
	}
}

// R3: what is answered is the caller's, its spare room too; what was handed in is not kept.
func TestAnswersAreNew(t *testing.T) {
	first, second := reads(t, sample), reads(t, sample)
	want := fixture.CopiedTree(first)
	fixture.ScribbledTree(first)
	if !fixture.SameTree(second, want) {
		t.Errorf("%s, want %s", told(second), told(want))
	}
	says(t, sample, want...)
	prints(t, second, sample)
	one, e := source.Names(second)
	two, f := source.Names(second)
	if e != api.OK || f != api.OK {
		t.Fatalf("%d, %d", e, f)
	}
	fixture.Full(one, "?")
	if strings.Join(two, " ") != "x y z" {
		t.Errorf("%q", two)
	}
	names(t, second, "x", "y", "z")
	text, _ := source.Print(second)
	fixture.ScribbledTree(second)
	if strings.Join(two, " ") != "x y z" || text != sample {
		t.Errorf("%q, %q", two, text)
	}
	checks(t, second, api.ErrTree)
}

// R3: no two lists of one tree share any memory: each of them is written full by itself.
func TestListsOfOneAnswer(t *testing.T) {
	for which := 0; ; which++ {
		prog, want := reads(t, sample), reads(t, sample)
		if !oneFull(prog, want, which) {
			if which < 20 {
				t.Errorf("%d lists", which)
			}
			return
		}
		if !fixture.SameTree(prog, want) {
			t.Errorf("list %d: %s, want %s", which, told(prog), told(want))
		}
	}
}

// oneFull writes one list of a tree full, the spare room too, and lays the other tree's in its place; false: there is none of
// that number.
func oneFull(prog, want []source.Stmt, which int) bool {
	var expr func(e, o *source.Expr) bool
	expr = func(e, o *source.Expr) bool {
		if len(e.Args) > 0 {
			if which == 0 {
				fixture.Full(e.Args, source.Expr{Kind: -7})
				e.Args = o.Args
				return true
			}
			which--
		}
		for i := range e.Args {
			if expr(&e.Args[i], &o.Args[i]) {
				return true
			}
		}
		return false
	}
	var list func(stmts, others *[]source.Stmt) bool
	list = func(stmts, others *[]source.Stmt) bool {
		if len(*stmts) > 0 {
			if which == 0 {
				fixture.Full(*stmts, source.Stmt{Kind: -7})
				*stmts = *others
				return true
			}
			which--
		}
		for i := range *stmts {
			s, o := &(*stmts)[i], &(*others)[i]
			if expr(&s.A, &o.A) || expr(&s.B, &o.B) || list(&s.Then, &o.Then) || list(&s.Else, &o.Else) {
				return true
			}
		}
		return false
	}
	// the list of the whole is the caller's own variable, so it is not tried
	for i := range prog {
		if expr(&prog[i].A, &want[i].A) || expr(&prog[i].B, &want[i].B) || list(&prog[i].Then, &want[i].Then) || list(&prog[i].Else, &want[i].Else) {
			return true
		}
	}
	return false
}

// R4, R6: the same answers, however often they are asked for and by how many at once, and no goroutine is left.
func TestTheSameAgain(t *testing.T) {
	want := reads(t, sample)
	prog := reads(t, sample)
	faults := map[string]source.Fault{
		"x := (1; ?":                             {Err: api.ErrToken, Line: 1, Col: 8},
		sample + "\n}":                           {Err: api.ErrToken, Line: 19, Col: 1},
		strings.Repeat("(", 5000):                {Err: api.ErrToken, Line: 1, Col: 1},
		"return " + strings.Repeat("(", 5000):    {Err: api.ErrToken, Line: 1, Col: 5008},
		sample + sample + "a:=b;c:=d;e:=f;g:=h;": {Err: api.ErrNames},
		strings.Repeat(" ", 32769):               {Err: api.ErrSource},
	}
	ask := func() {
		if got, f := source.Parse(sample); f != (source.Fault{}) || !fixture.SameTree(got, want) {
			t.Errorf("Parse = %s, %+v", told(got), f)
		}
		for text, fault := range faults {
			if got, f := source.Parse(text); f != fault || got != nil {
				t.Errorf("Parse(%.100q) = %s, %+v", text, told(got), f)
			}
		}
		if text, e := source.Print(prog); text != sample || e != api.OK {
			t.Errorf("Print = %q, %d", text, e)
		}
		if list, e := source.Names(prog); strings.Join(list, " ") != "x y z" || e != api.OK {
			t.Errorf("Names = %q, %d", list, e)
		}
		if e := source.Check(prog); e != api.OK {
			t.Errorf("Check = %d", e)
		}
		if e := source.Check([]source.Stmt{returns(num(-1))}); e != api.ErrTree {
			t.Errorf("Check = %d", e)
		}
	}
	fixture.OverAgain(t, runtime.NumGoroutine, 50, ask)
}
