package meaning_test

import (
	"slices"
	"strconv"
	"strings"
	"testing"

	"braid/api"
	"braid/fixture"
	"braid/source"
)

// play is a run thrown together, that is not refused.
type play struct {
	prog  prog
	over  objects
	given given
}

func thrown(d *fixture.Dice, nodes ...int) play {
	for {
		over := fixture.Map(d)
		p := play{fixture.Tree(d, d.Below(fixture.Pick(d, nodes...)), len(over)), over, fixture.Given(d)}
		if source.Check(p.prog) == api.OK {
			return p
		}
	}
}

// Programs thrown together, held against the plain run, at the fuel that they need, one below and one above it.
func TestThrownRuns(t *testing.T) {
	d := fixture.NewDice()
	seen := map[int]int{}
	for range 5000 {
		p := thrown(&d, 4, 12, 40, 100, 300)
		first, _ := fixture.Meant(p.prog, p.over, p.given, 400)
		for _, fuel := range []int{400, first.Count, first.Count - 1, first.Count + 1, d.Below(first.Count + 1)} {
			if fuel < 0 {
				continue
			}
			want, _ := fixture.Meant(p.prog, p.over, p.given, fuel)
			is(t, p.prog, p.over, p.given, fuel, want)
			seen[want.Outcome]++
		}
		if t.Failed() {
			return
		}
	}
	for _, end := range []int{api.EndNone, api.EndCommit, api.EndUser, api.EndBad} {
		if seen[end] < 300 {
			t.Errorf("outcome %d was seen %d times", end, seen[end])
		}
	}
}

// 24.8: a run that ends with Count n ends so with every fuel from n on, and with none below n.
func TestFuelsAgree(t *testing.T) {
	d := fixture.NewDice()
	seen := map[int]int{}
	for range 500 {
		p := thrown(&d, 12, 40, 100)
		whole := answer(t, p.prog, p.over, p.given, api.MaxFuel)
		if whole.Outcome == api.EndNone {
			continue
		}
		seen[whole.Outcome]++
		if whole.Count < 150 {
			ended(t, p.prog, p.over, p.given, whole)
		} else {
			is(t, p.prog, p.over, p.given, whole.Count, whole)
			is(t, p.prog, p.over, p.given, whole.Count-1, alone(api.EndNone, 0, whole.Count-1, p.over...))
		}
		if t.Failed() {
			return
		}
	}
	for _, end := range []int{api.EndCommit, api.EndUser, api.EndBad} {
		if seen[end] < 10 {
			t.Errorf("outcome %d was seen %d times", end, seen[end])
		}
	}
}

// 24.8 too: a program without a While ends with every fuel from 512 on.
func TestWithoutWhile(t *testing.T) {
	d := fixture.NewDice()
	seen := 0
	for range 1500 {
		p := thrown(&d, 40, 300, 600)
		for _, s := range statements(p.prog) {
			if s.Kind == source.While {
				s.Kind = source.If
			}
		}
		a := answer(t, p.prog, p.over, p.given, 512)
		if a.Outcome == api.EndNone {
			t.Fatalf("%s = %+v", asked(p.prog, p.over, p.given, 512), a)
		}
		for _, fuel := range []int{513, 1000, api.MaxFuel} {
			is(t, p.prog, p.over, p.given, fuel, a)
		}
		if a.Count > 150 {
			seen++
		}
	}
	if seen < 30 {
		t.Errorf("%d long runs", seen)
	}
	// as many nodes as may be, all of them counted
	p := append(slices.Repeat(prog{{Kind: source.Assign, Word: "x", A: num(1)}}, 255), returns(name("x"))...)
	ended(t, p, nil, nil, alone(api.EndCommit, 1, 512))
}

// statements are all statements of a program, which may be changed.
func statements(list prog) []*source.Stmt {
	var all []*source.Stmt
	for i := range list {
		s := &list[i]
		all = append(all, s)
		all = append(all, statements(s.Then)...)
		all = append(all, statements(s.Else)...)
	}
	return all
}

// sameButCount looks at two programs that are to mean the same but for Count; false: one of them may not be, or does not end.
func sameButCount(t *testing.T, p, q prog, over objects, g given) bool {
	t.Helper()
	if source.Check(q) != api.OK {
		return false
	}
	a, b := answer(t, p, over, g, api.MaxFuel), answer(t, q, over, g, api.MaxFuel)
	if a.Outcome == api.EndNone || b.Outcome == api.EndNone {
		return false
	}
	if !alike(a, b) {
		t.Fatalf("%s = %+v, and %q %+v", asked(p, over, g, api.MaxFuel), a, text(q), b)
	}
	return true
}

// changed are programs in which one and the same statement of that kind, at any place, is changed in these ways; none: there is
// no such statement.
func changed(d *fixture.Dice, p prog, kind int, ways ...func(s source.Stmt) source.Stmt) []prog {
	var places []int
	for k, s := range statements(p) {
		if s.Kind == kind {
			places = append(places, k)
		}
	}
	if len(places) == 0 {
		return nil
	}
	place := fixture.Pick(d, places...)
	var list []prog
	for _, way := range ways {
		q := fixture.CopiedTree(p)
		s := statements(q)[place]
		*s = way(*s)
		list = append(list, q)
	}
	return list
}

// unrolled is the If that a While is.
func unrolled(s source.Stmt) source.Stmt {
	return source.Stmt{Kind: source.If, A: s.A, Then: append(slices.Clone(s.Then), s)}
}

// 24.9: a While is an If with the While behind what it does.
func TestWhileIsIf(t *testing.T) {
	d := fixture.NewDice()
	seen := 0
	for range 3000 {
		p := thrown(&d, 40, 100, 200)
		q := p.prog
		for range 1 + d.Below(4) {
			next := changed(&d, q, source.While, unrolled)
			if next == nil || !sameButCount(t, p.prog, next[0], p.over, p.given) {
				break
			}
			q = next[0]
			seen++
		}
	}
	if seen < 1000 {
		t.Errorf("%d Whiles were unrolled", seen)
	}
}

// 24.10: `a && b` in a test is two Ifs, one in the other.
func TestAndIsTwoIfs(t *testing.T) {
	d := fixture.NewDice()
	seen := 0
	for range 3000 {
		p := thrown(&d, 40, 100)
		first, second := fixture.Expr(&d, 8, len(p.over)), fixture.Expr(&d, 8, len(p.over))
		both := func(s source.Stmt) source.Stmt {
			s.A = two(first, "&&", second)
			return s
		}
		apart := func(s source.Stmt) source.Stmt {
			inner := source.Stmt{Kind: source.If, A: second, Then: s.Then, Else: s.Else}
			s.A, s.Then = first, prog{inner}
			return s
		}
		q := changed(&d, p.prog, source.If, both, apart)
		if q != nil && source.Check(q[0]) == api.OK && sameButCount(t, q[0], q[1], p.over, p.given) {
			seen++
		}
	}
	if seen < 500 {
		t.Errorf("%d tests", seen)
	}
}

// 24.10: `!a` in a test changes Then and Else about.
func TestNotChangesAbout(t *testing.T) {
	d := fixture.NewDice()
	seen := 0
	for range 3000 {
		p := thrown(&d, 40, 100)
		q := changed(&d, p.prog, source.If, func(s source.Stmt) source.Stmt {
			s.A, s.Then, s.Else = one(source.Not, s.A), s.Else, s.Then
			return s
		})
		if q != nil && sameButCount(t, p.prog, q[0], p.over, p.given) {
			seen++
		}
	}
	if seen < 500 {
		t.Errorf("%d tests", seen)
	}
}

// 24.10: `a || b` opens no object of b where a is not 0, nor `a && b` where a is 0: even one that is none does no harm.
func TestRightIsLeftOut(t *testing.T) {
	d := fixture.NewDice()
	seen := 0
	for range 3000 {
		over, g := fixture.Map(&d), fixture.Given(&d)
		left, right := fixture.Expr(&d, 8, len(over)), fixture.Expr(&d, 8, len(over))
		for op, enough := range map[string]int64{"||": 1, "&&": 0} {
			alone, _ := fixture.Meant(returns(one(source.Not, one(source.Not, left))), over, g, 500)
			if alone.Outcome != api.EndCommit || alone.Result != enough {
				continue
			}
			seen++
			want := answer(t, returns(two(left, op, num(0))), over, g, 500)
			want.Result = enough
			for _, b := range []source.Expr{right, one(source.Object, num(99)), one(source.Taken, fixture.Number(-1))} {
				p := returns(two(left, op, b))
				is(t, p, over, g, 500, want)
				_, past := fixture.Meant(p, over, g, 500)
				_, bare := fixture.Meant(returns(left), over, g, 500)
				if !slices.Equal(past.All, bare.All) {
					t.Fatalf("%s opens %v, and its left operand %v", asked(p, over, g, 500), past.All, bare.All)
				}
			}
		}
	}
	if seen < 1000 {
		t.Errorf("%d right operands were left out", seen)
	}
}

// 24.12: brackets and blanks that change no tree change no meaning.
func TestTextsOfOneTree(t *testing.T) {
	d := fixture.NewDice()
	for range 800 {
		p := thrown(&d, 12, 40, 100)
		want := answer(t, p.prog, p.over, p.given, 1000)
		is(t, fixture.Source(t, text(p.prog)), p.over, p.given, 1000, want)
		is(t, fixture.Source(t, loose(&d, p.prog)), p.over, p.given, 1000, want)
		if t.Failed() {
			return
		}
	}
}

// gap is what may stand between any two tokens.
func gap(d *fixture.Dice) string {
	return fixture.Pick(d, " ", "  ", "\t", "\n", " \n\t", " # } ; [0] := 9;\n", "#\n")
}

// loose is a text of a program with gaps everywhere and brackets around all expressions.
func loose(d *fixture.Dice, list prog) string {
	var b strings.Builder
	say := func(parts ...string) {
		for _, s := range parts {
			b.WriteString(s)
			b.WriteString(gap(d))
		}
	}
	for _, s := range list {
		a, other := looseExpr(d, s.A), looseExpr(d, s.B)
		switch s.Kind {
		case source.Assign:
			say(s.Word, ":=", a, ";")
		case source.Store:
			say("[", a, "]", ":=", other, ";")
		case source.Release:
			say("release", "[", a, "]", ";")
		case source.If:
			say("if", a, "{", loose(d, s.Then), "}", "else", "{", loose(d, s.Else), "}")
		case source.While:
			say("while", a, "{", loose(d, s.Then), "}")
		case source.Abort:
			say("abort", ";")
		case source.Return:
			say("return", a, ";")
		}
	}
	return b.String()
}

func looseExpr(d *fixture.Dice, e source.Expr) string {
	var parts []string
	for _, a := range e.Args {
		parts = append(parts, looseExpr(d, a))
	}
	switch e.Kind {
	case source.Number:
		parts = []string{strconv.FormatInt(e.Num, 10)}
	case source.Name:
		parts = []string{e.Word}
	case source.Object:
		parts = []string{"[", parts[0], "]"}
	case source.Taken:
		parts = []string{"take", "[", parts[0], "]"}
	case source.Minus:
		parts = []string{"-", parts[0]}
	case source.Not:
		parts = []string{"!", parts[0]}
	case source.Binary:
		parts = []string{parts[0], e.Word, parts[1]}
		if e.Word == "min" || e.Word == "max" {
			parts = []string{e.Word, "(", parts[0], ",", parts[2], ")"}
		}
	}
	return strings.Join(slices.Concat([]string{"("}, parts, []string{")"}), gap(d))
}
