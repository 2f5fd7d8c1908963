package source_test

import (
	"math"
	"slices"
	"strings"
	"testing"

	"braid/api"
	"braid/fixture"
	"braid/source"
)

// sameText looks at a text beside the plain reader, and at its tree beside the plain calls; it tells the error.
func sameText(t *testing.T, text string) api.Errno {
	t.Helper()
	prog, f := source.Parse(text)
	want, g := plainParse(text)
	if f != g || !fixture.SameTree(prog, want) || f.Err != api.OK && prog != nil {
		t.Fatalf("Parse(%q) = %s, %+v, want %s, %+v", text, told(prog), f, told(want), g)
	}
	if f.Err == api.OK {
		names(t, prog, plainNames(text)...)
		sameTree(t, prog)
	}
	return f.Err
}

// sameTree looks at a tree beside the plain calls, and there and back (P23.8).
func sameTree(t *testing.T, prog []source.Stmt) api.Errno {
	t.Helper()
	want := plainCheck(prog)
	checks(t, prog, want)
	if want == api.OK {
		text := strings.Join(append(plainPrint(prog, 0), ""), "\n")
		if len(text) > 32768 {
			t.Errorf("%d bytes", len(text))
		}
		prints(t, prog, text)
		names(t, prog, plainNames(text)...)
	}
	if t.Failed() {
		t.FailNow()
	}
	return want
}

// thrower throws trees, up to a number of nodes and so deep.
type thrower struct {
	*fixture.Dice
	names []string
	nodes int
}

func (d *thrower) expr(deep int) source.Expr {
	d.nodes--
	kind := fixture.Pick(d.Dice, source.Number, source.Name, source.Object, source.Taken, source.Minus, source.Not, source.Binary, source.Binary, source.Binary)
	if deep <= 1 || d.nodes <= 0 {
		kind = fixture.Pick(d.Dice, source.Number, source.Name)
	}
	switch kind {
	case source.Number:
		return num(fixture.Pick(d.Dice, 0, 1, 2, 9, 10, math.MaxInt64, int64(d.Roll()>>1), int64(d.Below(1000))))
	case source.Name:
		return name(fixture.Pick(d.Dice, d.names...))
	case source.Binary:
		op := fixture.Pick(d.Dice, strings.Fields(operators)...)
		if d.Below(2) == 0 { // as many of each strength
			op = fixture.Pick(d.Dice, strings.Fields(fixture.Pick(d.Dice, strengths[1:]...))...)
		}
		return two(d.expr(deep-1), op, d.expr(deep-1))
	}
	return one(kind, d.expr(deep-1))
}

func (d *thrower) list(deep int) []source.Stmt {
	var list []source.Stmt
	for range d.Below(fixture.Pick(d.Dice, 1, 2, 3, 5)) {
		if d.nodes > 0 {
			list = append(list, d.stmt(deep))
		}
	}
	return list
}

func (d *thrower) stmt(deep int) source.Stmt {
	d.nodes--
	s := source.Stmt{Kind: fixture.Pick(d.Dice, source.Assign, source.Assign, source.Store, source.Release, source.If, source.If, source.If, source.While, source.Abort, source.Return)}
	if deep <= 1 {
		s.Kind = source.Abort
	}
	switch s.Kind {
	case source.Abort:
		return s
	case source.Assign:
		s.Word = fixture.Pick(d.Dice, d.names...)
	case source.Store:
		s.B = d.expr(min(deep-1, 5))
	}
	s.A = d.expr(min(deep-1, fixture.Pick(d.Dice, 2, 3, 5, 23)))
	if s.Kind == source.If || s.Kind == source.While {
		s.Then = d.list(deep - 1)
	}
	if s.Kind == source.If {
		s.Else = d.list(deep - 1)
	}
	return s
}

// thrown is a program that can be but for its names, its depth or its nodes, now and then.
func thrown(dice *fixture.Dice) []source.Stmt {
	some := []string{"a", "b", "c", "x1", "x12", "ifs", "z0", "abcdefghijklmnop", "min1", "e"}
	d := thrower{dice, some[:1+dice.Below(fixture.Pick(dice, 3, 8, 10))], fixture.Pick(dice, 5, 20, 60, 200, 700)}
	prog := d.list(fixture.Pick(dice, 3, 6, 10, 24, 27))
	for range dice.Below(3) {
		prog = append(prog, d.stmt(fixture.Pick(dice, 3, 6, 24, 27)))
	}
	for d.nodes > 0 && dice.Below(40) > 0 {
		prog = append(prog, d.stmt(fixture.Pick(dice, 2, 3, 4, 6)))
	}
	switch around := 18 + dice.Below(8); dice.Below(10) {
	case 0:
		prog = append(prog, returns(nested(around, fixture.Pick(dice, source.Object, source.Taken, source.Minus, source.Not), name("a"))))
	case 1:
		for range around {
			prog = []source.Stmt{fixture.Pick(dice, blocks...)(prog)}
		}
	case 2:
		prog = append(prog, assigns(6+dice.Below(4))...)
	}
	return prog
}

func TestThrownTrees(t *testing.T) {
	d := fixture.NewDice()
	seen := map[api.Errno]int{}
	for range 2000 {
		prog := thrown(&d)
		seen[sameTree(t, prog)]++
		for range 1 + d.Below(2) {
			spoil(&d, prog)
		}
		seen[sameTree(t, prog)]++
	}
	for _, e := range []api.Errno{api.OK, api.ErrTree, api.ErrNames, api.ErrDeep, api.ErrBig} {
		if seen[e] < 30 {
			t.Errorf("error %d was seen %d times", e, seen[e])
		}
	}
}

// spoil changes one field of one node, which may be one that can be behind that as well.
func spoil(d *fixture.Dice, prog []source.Stmt) {
	var stmts []*source.Stmt
	var exprs []*source.Expr
	var expr func(e *source.Expr)
	expr = func(e *source.Expr) {
		exprs = append(exprs, e)
		for i := range e.Args {
			expr(&e.Args[i])
		}
	}
	var list func(list []source.Stmt)
	list = func(all []source.Stmt) {
		for i := range all {
			s := &all[i]
			stmts = append(stmts, s)
			expr(&s.A)
			expr(&s.B)
			list(s.Then)
			list(s.Else)
		}
	}
	list(prog)
	if len(stmts) == 0 {
		return
	}
	word := fixture.Pick(d, "", "a", "b", "if", "A", "+", "min", "&&", "=", "abcdefghijklmnopq", "a b", "1")
	e, s := fixture.Pick(d, exprs...), fixture.Pick(d, stmts...)
	switch d.Below(10) {
	case 0:
		s.Kind = d.Below(10) - 1
	case 1:
		s.Word = word
	case 2:
		s.Then = times(d.Below(2), aborts())
	case 3:
		s.Else = times(d.Below(2), aborts())
	case 4:
		*e = source.Expr{}
	case 5:
		e.Kind = d.Below(10) - 1
	case 6:
		e.Num = fixture.Edge(d)
	case 7:
		e.Word = word
	case 8:
		e.Args = times(d.Below(4), num(1))
	case 9:
		e.Args = append(slices.Clone(e.Args), source.Expr{})
	}
}

// dressed is a text of a tree with brackets and gaps thrown in that say nothing.
func dressed(d *fixture.Dice, prog []source.Stmt) string {
	return glued(d, dressedList(d, prog))
}

// glued lays a gap between tokens, or none where they stay two.
func glued(d *fixture.Dice, tokens []string) string {
	var text strings.Builder
	last := ""
	for _, w := range tokens {
		both, _, all := tokensOf(last + w)
		if last != "" && (!all || len(both) != 2 || both[0].text != last || d.Below(3) > 0) {
			text.WriteString(fixture.Pick(d, append(gaps, " ", " ", " ", " ", " ", "\n", "\n\t")...))
		}
		text.WriteString(w)
		last = w
	}
	return text.String() + fixture.Pick(d, "", "\n", " ", "#", "# }")
}

func dressedList(d *fixture.Dice, prog []source.Stmt) []string {
	var tokens []string
	add := func(parts ...any) {
		for _, p := range parts {
			switch x := p.(type) {
			case string:
				tokens = append(tokens, strings.Fields(x)...)
			case source.Expr:
				tokens = append(tokens, dressedExpr(d, x, 1)...)
			case []source.Stmt:
				tokens = append(tokens, dressedList(d, x)...)
			}
		}
	}
	for _, s := range prog {
		switch s.Kind {
		case source.Assign:
			add(s.Word, ":=", s.A, ";")
		case source.Store:
			add("[", s.A, "] :=", s.B, ";")
		case source.Release:
			add("release [", s.A, "] ;")
		case source.Abort:
			add("abort ;")
		case source.Return:
			add("return", s.A, ";")
		case source.While:
			add("while", s.A, "{", s.Then, "}")
		case source.If:
			add("if", s.A, "{", s.Then, "}")
			switch {
			case len(s.Else) == 1 && s.Else[0].Kind == source.If && d.Below(2) == 0:
				add("else", s.Else)
			case len(s.Else) > 0 || d.Below(3) == 0:
				add("else {", s.Else, "}")
			}
		}
	}
	return tokens
}

// dressedExpr has brackets where it is weaker than least, and where the dice say so.
func dressedExpr(d *fixture.Dice, e source.Expr, least int) []string {
	if plainStrength(e) < least || d.Below(8) == 0 {
		return slices.Concat([]string{"("}, dressedExpr(d, e, 1), []string{")"})
	}
	var args [][]string
	own := plainStrength(e)
	for i, a := range e.Args {
		least := 1
		switch {
		case e.Kind == source.Minus || e.Kind == source.Not:
			least = 6
		case e.Kind == source.Binary && own < 7:
			least = own + i
			if own == 3 {
				least = 4
			}
		}
		args = append(args, dressedExpr(d, a, least))
	}
	switch e.Kind {
	case source.Object:
		return slices.Concat([]string{"["}, args[0], []string{"]"})
	case source.Taken:
		return slices.Concat([]string{"take", "["}, args[0], []string{"]"})
	case source.Minus:
		return slices.Concat([]string{"-"}, args[0])
	case source.Not:
		return slices.Concat([]string{"!"}, args[0])
	case source.Binary:
		if own == 7 {
			return slices.Concat([]string{e.Word, "("}, args[0], []string{","}, args[1], []string{")"})
		}
		return slices.Concat(args[0], []string{e.Word}, args[1])
	}
	return []string{plainText(e)}
}

// Texts of thrown trees, however they are dressed, are those trees; and with something spoilt in them, what the plain reader
// makes of them.
func TestThrownTexts(t *testing.T) {
	d := fixture.NewDice()
	seen := map[api.Errno]int{}
	for range 900 {
		prog := thrown(&d)
		text := dressed(&d, prog)
		if got, f := source.Parse(text); len(text) <= 32768 && (f != (source.Fault{Err: plainCheck(prog)}) || f.Err == api.OK && !fixture.SameTree(got, prog)) {
			t.Fatalf("Parse(%q) = %s, %+v, want %s", text, told(got), f, told(prog))
		}
		if len(text) < 5000 {
			seen[sameText(t, text)]++
		}
	}
	for _, e := range []api.Errno{api.OK, api.ErrNames, api.ErrDeep} {
		if seen[e] < 20 {
			t.Errorf("error %d was seen %d times", e, seen[e])
		}
	}
}

// small is a thrown program whose text is short.
func small(dice *fixture.Dice) []source.Stmt {
	d := thrower{dice, []string{"a", "b", "x1"}, 25}
	return append(d.list(5), d.stmt(5), d.stmt(4))
}

// Good texts with tokens taken out, put in, doubled or changed about.
func TestSpoiltTokens(t *testing.T) {
	d := fixture.NewDice()
	all := append(strings.Fields(keptWords+" "+allSigns), "x", "a", "7", "0", "=", ":", "00", "?", "abcdefghijklmnopq")
	seen := map[api.Errno]int{}
	for range 2500 {
		tokens := dressedList(&d, small(&d))
		for range 1 + d.Below(2) {
			at := d.Below(len(tokens))
			other := fixture.Pick(&d, fixture.Pick(&d, all...), fixture.Pick(&d, tokens...))
			tokens = slices.Concat(tokens[:at], fixture.Pick(&d, nil, []string{other}, []string{tokens[at], tokens[at]}, []string{other, tokens[at]}), tokens[at+d.Below(2):])
			if len(tokens) == 0 {
				break
			}
		}
		seen[sameText(t, strings.Join(tokens, fixture.Pick(&d, " ", " ", "\n")))]++
	}
	if seen[api.OK] < 50 || seen[api.ErrToken] < 500 {
		t.Errorf("seen: %v", seen)
	}
}

// Good texts with bytes taken out, put in, doubled or changed about, and texts that break off.
func TestSpoiltBytes(t *testing.T) {
	d := fixture.NewDice()
	seen := map[api.Errno]int{}
	for range 2500 {
		text := dressed(&d, small(&d))
		for range 1 + d.Below(2) {
			at := d.Below(len(text))
			c := fixture.Pick(&d, text[at:at+1], text[d.Below(len(text)):][:1], " ", "\n", "#", "(", ")", "-", "!", "=", "0", "a", "A", "\r", "\x80")
			text = text[:at] + fixture.Pick(&d, "", c, c+c) + text[at+d.Below(2):]
		}
		if d.Below(4) == 0 {
			text = text[:d.Below(len(text))]
		}
		seen[sameText(t, text)]++
	}
	if seen[api.OK] < 50 || seen[api.ErrToken] < 500 {
		t.Errorf("seen: %v", seen)
	}
}

// All beginnings of programs of a few tokens, and each token behind each of them.
func TestAllShortTexts(t *testing.T) {
	tokens := append(strings.Fields(keptWords+" "+allSigns), "x", "7")
	texts := 0
	var all func(text string, left int)
	all = func(text string, left int) {
		texts++
		sameText(t, text)
		if _, f := source.Parse(text); left == 0 || f.Err == api.ErrToken && f.Col <= len(text) {
			return
		}
		for _, w := range tokens {
			all(strings.TrimPrefix(text+" "+w, " "), left-1)
		}
	}
	all("", 4)
	for _, ahead := range []string{"x := 7", "x := - x", "x := [ 7 ]", "x := ( 7", "x := min ( 7", "x := 7 < 7", "x := ( 7 < 7 )", "if 7 {", "if 7 { }", "if 7 { } else", "if 7 { } else { }", "while 7", "[ 7 ]", "release [ 7", "abort ;", "return 7 + 7"} {
		all(ahead, 2)
	}
	if texts < 10000 {
		t.Errorf("%d texts", texts)
	}
}
