package source_test

import (
	"math"
	"slices"
	"strings"
	"testing"

	"braid/api"
	"braid/source"
)

// far are numbers that no kind has.
var far = []int{math.MinInt, -7, -1, 0, 8, 9, 256 + 1, math.MaxInt}

// usual are an expression of each kind.
var usual = []source.Expr{
	num(5), name("a"), one(source.Object, num(1)), one(source.Taken, name("b")), one(source.Minus, num(2)), one(source.Not, num(3)), two(num(4), "+", name("c")),
}

// plain are a statement of each kind, with all that a kind may have.
var plain = []source.Stmt{
	{Kind: source.Assign, Word: "a", A: num(1)},
	{Kind: source.Store, A: num(1), B: num(2)},
	{Kind: source.Release, A: num(1)},
	{Kind: source.If, A: num(1), Then: times(1, aborts()), Else: times(2, aborts())},
	{Kind: source.While, A: num(1), Then: times(1, aborts())},
	{Kind: source.Abort},
	{Kind: source.Return, A: num(1)},
}

// tree looks whether a statement can be, wherever it stands.
func tree(t *testing.T, s source.Stmt, is bool) {
	t.Helper()
	want := api.ErrTree
	if is {
		want = api.OK
	}
	list := []source.Stmt{aborts(), s}
	for _, prog := range [][]source.Stmt{
		{s}, list, {s, aborts()},
		{{Kind: source.If, A: num(1), Then: list}},
		{{Kind: source.If, A: num(1), Then: list[:1], Else: list}},
		{{Kind: source.While, A: num(1), Then: []source.Stmt{{Kind: source.While, A: num(1), Then: list}}}, aborts()},
	} {
		checks(t, prog, want)
	}
}

// part looks whether an expression can be, wherever it stands.
func part(t *testing.T, e source.Expr, is bool) {
	t.Helper()
	for _, s := range []source.Stmt{
		assign("x", e), returns(e),
		{Kind: source.Store, A: e, B: num(1)}, {Kind: source.Store, A: num(1), B: e}, {Kind: source.Release, A: e},
		{Kind: source.If, A: e}, {Kind: source.While, A: e},
		returns(one(source.Object, e)), returns(one(source.Taken, e)), returns(one(source.Minus, e)), returns(one(source.Not, e)),
		returns(two(e, "max", num(1))), returns(two(num(1), "||", e)), returns(one(source.Not, one(source.Not, two(num(1), "<", e)))),
	} {
		tree(t, s, is)
	}
}

func TestExprs(t *testing.T) {
	for i, e := range usual {
		if e.Kind != i+1 {
			t.Fatalf("%+v is the %d.", e, i+1)
		}
		part(t, e, true)
		for _, kind := range far {
			other := e
			other.Kind = kind
			part(t, other, false)
		}
	}
}

// A kind with the fields of another one.
func TestExprsOfOtherKinds(t *testing.T) {
	for _, e := range usual {
		for kind := source.Number; kind <= source.Binary; kind++ {
			alike := len(e.Args) == 1 && kind >= source.Object && kind <= source.Not
			other := e
			other.Kind = kind
			part(t, other, alike || kind == e.Kind)
		}
	}
}

func TestExprNum(t *testing.T) {
	for _, e := range usual {
		for _, n := range []int64{math.MinInt64, -1, 0, 1, math.MaxInt64} {
			e.Num = n
			part(t, e, n == 0 || n > 0 && e.Kind == source.Number)
		}
	}
}

func TestExprWord(t *testing.T) {
	for _, e := range usual {
		for _, w := range []string{"", "a", "x1", "+", "min", "if", "A", " ", "1"} {
			e.Word = w
			switch e.Kind {
			case source.Name:
				part(t, e, w == "a" || w == "x1")
			case source.Binary:
				part(t, e, w == "+" || w == "min")
			default:
				part(t, e, w == "")
			}
		}
	}
}

func TestExprArgs(t *testing.T) {
	for _, e := range usual {
		count := len(e.Args)
		for n := range 5 {
			e.Args = times(n, num(1))
			part(t, e, n == count)
		}
		e.Args = make([]source.Expr, count) // of the right length, but the zero Expr is none
		part(t, e, count == 0)
	}
}

func TestOperators(t *testing.T) {
	for _, op := range strings.Fields(operators) {
		part(t, two(num(1), op, num(2)), true)
		for _, spoilt := range []string{op + " ", " " + op, op + op[:1], op + "x", strings.ToUpper(op) + "\x00"} {
			part(t, two(num(1), spoilt, num(2)), strings.Contains(" "+operators+" ", " "+spoilt+" "))
		}
	}
	for _, op := range []string{"", "=", "!", ":=", "(", "[", ";", ",", "add", "and", "not", "take", "MIN", "mi", "a"} {
		part(t, two(num(1), op, num(2)), false)
	}
}

// word looks whether a word is a name, as that of a Name and of an Assign.
func word(t *testing.T, w string, is bool) {
	t.Helper()
	part(t, name(w), is)
	tree(t, assign(w, num(1)), is)
}

func TestNames(t *testing.T) {
	for _, w := range []string{"a", "z", "az", "a0", "z9", "r1", "x2y3", "abcdefghijklmnop", "a123456789012345", "ifs", "i", "elsewhere", "take1", "minmax", "mi", "store", "assign", "not", "and"} {
		word(t, w, true)
	}
	for _, w := range []string{"", "abcdefghijklmnopq", "a1234567890123456", strings.Repeat("a", 1000), "0", "1a", "A", "aB", "a b", " a", "a ", "a_", "_", "a-", "a.", "-a", "ä", "a\x00", "a\n", "a\xff", "[", "+"} {
		word(t, w, false)
	}
	for _, w := range strings.Fields(keptWords) {
		word(t, w, false)
		word(t, w+"0", true)
		word(t, "x"+w, true)
	}
}

func TestEveryByteOfNames(t *testing.T) {
	for b := range 256 {
		c := string([]byte{byte(b)})
		letter, digit := b >= 'a' && b <= 'z', b >= '0' && b <= '9'
		part(t, name(c), letter)
		for _, w := range []string{"x" + c, "x" + c + "x", "abcdefghijklmno" + c} {
			part(t, name(w), letter || digit)
		}
	}
}

func TestStmts(t *testing.T) {
	for i, s := range plain {
		if s.Kind != i+1 {
			t.Fatalf("%+v is the %d.", s, i+1)
		}
		tree(t, s, true)
		for _, kind := range far {
			other := s
			other.Kind = kind
			tree(t, other, false)
		}
	}
	for _, kind := range far {
		tree(t, source.Stmt{Kind: kind}, false)
	}
}

// Every field of every kind, once as the kind wants it and once otherwise.
func TestStmtFields(t *testing.T) {
	kinds := func(kinds ...int) func(kind int) bool {
		return func(kind int) bool { return slices.Contains(kinds, kind) }
	}
	word, b := kinds(source.Assign), kinds(source.Store)
	a := kinds(source.Assign, source.Store, source.Release, source.If, source.While, source.Return)
	then, other := kinds(source.If, source.While), kinds(source.If)
	for _, usual := range plain {
		change := func(change func(s *source.Stmt), is bool) {
			t.Helper()
			s := usual
			change(&s)
			tree(t, s, is)
		}
		kind := usual.Kind
		change(func(s *source.Stmt) { s.Word = "" }, !word(kind))
		change(func(s *source.Stmt) { s.Word = "x" }, word(kind))
		change(func(s *source.Stmt) { s.A = source.Expr{} }, !a(kind))
		change(func(s *source.Stmt) { s.A = source.Expr{Args: []source.Expr{}} }, !a(kind))
		change(func(s *source.Stmt) { s.A = num(0) }, a(kind))
		change(func(s *source.Stmt) { s.A = num(-1) }, false)
		change(func(s *source.Stmt) { s.B = source.Expr{} }, !b(kind))
		change(func(s *source.Stmt) { s.B = source.Expr{Args: []source.Expr{}} }, !b(kind))
		change(func(s *source.Stmt) { s.B = num(0) }, b(kind))
		change(func(s *source.Stmt) { s.B = num(-1) }, false)
		for _, half := range []source.Expr{{Num: 1}, {Word: "a"}, {Args: times(1, num(1))}, {Args: make([]source.Expr, 1)}} {
			change(func(s *source.Stmt) { s.A = half }, false)
			change(func(s *source.Stmt) { s.B = half }, false)
		}
		change(func(s *source.Stmt) { s.Then = nil }, true)
		change(func(s *source.Stmt) { s.Then = []source.Stmt{} }, true)
		change(func(s *source.Stmt) { s.Then = times(1, aborts()) }, then(kind))
		change(func(s *source.Stmt) { s.Then = make([]source.Stmt, 1) }, false)
		change(func(s *source.Stmt) { s.Else = nil }, true)
		change(func(s *source.Stmt) { s.Else = []source.Stmt{} }, true)
		change(func(s *source.Stmt) { s.Else = times(1, aborts()) }, other(kind))
		change(func(s *source.Stmt) { s.Else = make([]source.Stmt, 1) }, false)
	}
}

// A kind with the fields of another one.
func TestStmtsOfOtherKinds(t *testing.T) {
	alike := [][2]int{{source.Release, source.Return}, {source.Return, source.Release}, {source.While, source.If},
		{source.Release, source.If}, {source.Release, source.While}, {source.Return, source.If}, {source.Return, source.While}}
	for _, s := range plain {
		for kind := source.Assign; kind <= source.Return; kind++ {
			other := s
			other.Kind = kind
			tree(t, other, kind == s.Kind || slices.Contains(alike, [2]int{s.Kind, kind}))
		}
	}
}

func TestHowManyNames(t *testing.T) {
	for n := range 10 {
		want := api.OK
		if n > 8 {
			want = api.ErrNames
		}
		// as words of Assigns; as Names in one expression; each many times; half of them in either way
		checks(t, assigns(n), want)
		sum, again := num(0), num(0)
		for _, s := range assigns(n) {
			sum, again = two(sum, "+", name(s.Word)), two(name(s.Word), "+", again)
		}
		checks(t, []source.Stmt{returns(sum)}, want)
		checks(t, []source.Stmt{returns(two(sum, "-", again))}, want)
		checks(t, append(assigns(n), returns(sum)), want)
		checks(t, append(assigns(n/2), returns(sum)), want)
		// deep in blocks
		checks(t, append(assigns(n/2), source.Stmt{Kind: source.If, A: num(0), Else: assigns(n)}), want)
		checks(t, append(assigns(n/2), source.Stmt{Kind: source.While, A: num(0), Then: assigns(n)}), want)
	}
	// the same first letters are not the same name, and operators are no names
	checks(t, []source.Stmt{assign("a", num(0)), assign("aa", num(0)), assign("aaa", num(0)), assign("a1", num(0)), assign("b", num(0)), assign("b0", num(0)), assign("c", num(0)), assign("cc", two(num(0), "min", num(1)))}, api.OK)
}

// shells are all ways to lay one more level around a thing.
var shells = []func(e source.Expr) source.Expr{
	func(e source.Expr) source.Expr { return one(source.Object, e) },
	func(e source.Expr) source.Expr { return one(source.Taken, e) },
	func(e source.Expr) source.Expr { return one(source.Minus, e) },
	func(e source.Expr) source.Expr { return one(source.Not, e) },
	func(e source.Expr) source.Expr { return two(e, "+", num(1)) },
	func(e source.Expr) source.Expr { return two(num(1), "max", e) },
}

var holders = []func(e source.Expr) source.Stmt{
	returns,
	func(e source.Expr) source.Stmt { return assign("x", e) },
	func(e source.Expr) source.Stmt { return source.Stmt{Kind: source.Store, A: e, B: num(1)} },
	func(e source.Expr) source.Stmt { return source.Stmt{Kind: source.Store, A: num(1), B: e} },
	func(e source.Expr) source.Stmt { return source.Stmt{Kind: source.Release, A: e} },
	func(e source.Expr) source.Stmt { return source.Stmt{Kind: source.If, A: e} },
	func(e source.Expr) source.Stmt { return source.Stmt{Kind: source.While, A: e} },
}

var blocks = []func(list []source.Stmt) source.Stmt{
	func(list []source.Stmt) source.Stmt { return source.Stmt{Kind: source.If, A: num(1), Then: list} },
	func(list []source.Stmt) source.Stmt { return source.Stmt{Kind: source.If, A: num(1), Else: list} },
	func(list []source.Stmt) source.Stmt { return source.Stmt{Kind: source.While, A: num(1), Then: list} },
	func(list []source.Stmt) source.Stmt {
		return source.Stmt{Kind: source.If, A: num(1), Then: times(1, aborts()), Else: append(times(2, aborts()), list...)}
	},
}

func TestHowDeep(t *testing.T) {
	want := func(depth int) api.Errno {
		if depth > 24 {
			return api.ErrDeep
		}
		return api.OK
	}
	for _, shell := range shells {
		for _, hold := range holders {
			e := num(0)
			for depth := 2; depth < 30; depth++ { // the number's
				checks(t, []source.Stmt{aborts(), hold(e), aborts()}, want(depth))
				e = shell(e)
			}
		}
	}
	for _, lay := range blocks {
		for depth := 1; depth < 30; depth++ {
			deep := func(list ...source.Stmt) []source.Stmt {
				for range depth - 1 {
					list = append(times(1, aborts()), lay(list))
				}
				return list
			}
			checks(t, deep(aborts()), want(depth))
			checks(t, deep(returns(num(0))), want(depth+1))
			checks(t, deep(source.Stmt{Kind: source.Store, A: num(0), B: one(source.Minus, num(0))}), want(depth+2))
			if depth > 1 { // an empty block is no level, but the test is one
				checks(t, deep(), want(depth))
			}
		}
	}
}

// Each kind of node counts one.
func TestHowMany(t *testing.T) {
	counted := func(nodes int, list ...source.Stmt) {
		t.Helper()
		checks(t, append(list, times(512-nodes, aborts())...), api.OK)
		checks(t, append(times(513-nodes, aborts()), list...), api.ErrBig)
	}
	counted(0)
	for i, nodes := range []int{2, 3, 2, 5, 3, 1, 2} {
		counted(nodes, plain[i])
	}
	for i, nodes := range []int{1, 1, 2, 2, 2, 2, 3} {
		counted(nodes+1, returns(usual[i]))
		counted(2*nodes+1, source.Stmt{Kind: source.Store, A: usual[i], B: usual[i]})
	}
	counted(512, times(256, returns(num(0)))...)
	counted(510, times(85, returns(two(num(1), "+", two(num(1), "*", num(1)))))...)
	counted(1+1+200, source.Stmt{Kind: source.If, A: num(1), Then: times(50, aborts()), Else: times(150, aborts())})
	checks(t, times(1<<20, aborts()), api.ErrBig)
	checks(t, times(1<<16, returns(two(num(1), "+", num(1)))), api.ErrBig)
}

// Each error stands ahead of the later ones, whichever stands first in the tree.
func TestWhichError(t *testing.T) {
	wrong := []source.Stmt{returns(num(-1))}
	many := assigns(9)
	deep := []source.Stmt{returns(nested(23, source.Not, num(0)))}
	big := times(513, aborts())
	errors := []struct {
		list []source.Stmt
		e    api.Errno
	}{{wrong, api.ErrTree}, {many, api.ErrNames}, {deep, api.ErrDeep}, {big, api.ErrBig}}
	for i, first := range errors {
		checks(t, first.list, first.e)
		for _, later := range errors[i:] {
			for _, last := range errors[i:] {
				checks(t, slices.Concat(first.list, later.list, last.list), first.e)
				checks(t, slices.Concat(last.list, later.list, first.list), first.e)
				checks(t, []source.Stmt{{Kind: source.If, A: num(0), Then: last.list, Else: slices.Concat(later.list, first.list)}}, first.e)
			}
		}
	}
	// the wrong node far beyond the depth and the number that may be
	lost := nested(1000, source.Minus, num(-1))
	checks(t, append(slices.Concat(many, deep, big), returns(lost)), api.ErrTree)
	// the ninth name there
	lost = nested(1000, source.Minus, name("x8"))
	checks(t, append(slices.Concat(assigns(8), deep, big), returns(lost)), api.ErrNames)
	checks(t, append(slices.Concat(assigns(8), deep, big), returns(nested(1000, source.Minus, name("x7")))), api.ErrDeep)
	// what is wrong stands in a node that is wrong
	checks(t, []source.Stmt{{Kind: 9, Word: "9", A: lost, Then: append(big, wrong...)}}, api.ErrTree)
}

// Very deep trees end, too.
func TestDeepTrees(t *testing.T) {
	const levels = 1 << 15
	for bottom, want := range map[string]api.Errno{"a": api.ErrDeep, "A": api.ErrTree} {
		checks(t, []source.Stmt{returns(nested(levels, source.Minus, name(bottom)))}, want)
		list := []source.Stmt{returns(name(bottom))}
		for range levels {
			list = []source.Stmt{{Kind: source.While, A: num(1), Then: list}}
		}
		checks(t, list, want)
	}
}

func TestNamesInTheirOrder(t *testing.T) {
	for text, want := range map[string]string{
		"":                                  "",
		"x := 1;":                           "x",
		"return x;":                         "x",
		"x := y;":                           "x y",
		"x := x;":                           "x",
		"[b] := a;":                         "b a",
		"[b] := [b + a] + b;":               "b a",
		"release [z];":                      "z",
		"abort;":                            "",
		"return c + b * a;":                 "c b a",
		"return c * b + a;":                 "c b a",
		"return a * (c - b);":               "a c b",
		"return min(d, max(b, c));":         "d b c",
		"return -d || !c && [b < a];":       "d c b a",
		"return take [take [c] + b];":       "c b",
		"if c { b := 1; } else { a := 2; }": "c b a",
		"if 1 { } else { a := 2; } b := 1;": "a b",
		"if z { y := x; } else if w { v := u; } else { t := s; }":                   "z y x w v u t s",
		"while c { a := b; while d { e := 1; } }":                                   "c a b d e",
		"while b { while a { b := a; } c := 1; } d := c;":                           "b a c d",
		"x := 1; x := 2; y := x; x := y;":                                           "x y",
		"aa := 1; a := aa; aaa := a;":                                               "aa a aaa",
		"abcdefghijklmnop := 1; abcdefghijklmno := 2;":                              "abcdefghijklmnop abcdefghijklmno",
		"h := 1; g := 1; f := 1; e := 1; d := 1; c := 1; b := 1; a := h + g + e;":   "h g f e d c b a",
		"if 1 { if 2 { } else { c := 1; } b := 1; } else { a := 1; } [d] := d + e;": "c b a d e",
	} {
		names(t, reads(t, text), strings.Fields(want)...)
	}
}

// A list that stands at many places counts at each of them.
func TestSharedLists(t *testing.T) {
	hundred := times(100, aborts())
	half := source.Stmt{Kind: source.If, A: num(0), Then: hundred, Else: hundred}
	checks(t, append([]source.Stmt{half, half}, times(512-404, aborts())...), api.OK)
	checks(t, append([]source.Stmt{half, half}, times(513-404, aborts())...), api.ErrBig)
	pair := two(two(num(1), "+", num(2)), "*", num(3)) // five nodes
	prog := []source.Stmt{returns(two(pair, "-", pair)), {Kind: source.Store, A: pair, B: pair}}
	checks(t, append(prog, times(512-23, aborts())...), api.OK)
	checks(t, append(prog, times(513-23, aborts())...), api.ErrBig)
	// at another depth each time
	deep := nested(10, source.Minus, num(0))
	for n := range 20 {
		want := api.OK
		if n+12 > 24 {
			want = api.ErrDeep
		}
		checks(t, []source.Stmt{returns(two(deep, "+", nested(max(n-1, 0), source.Not, deep)))}, want)
		checks(t, []source.Stmt{returns(deep), returns(nested(n, source.Not, deep))}, want)
		checks(t, []source.Stmt{returns(nested(n, source.Not, deep)), returns(deep)}, want)
	}
	// pieces of one list, of which the longer ones have more in them
	list := append(times(3, aborts()), assign("a", name("b")), assign("c", num(0)), returns(num(-1)))
	pieces := func(n, m int) []source.Stmt {
		return []source.Stmt{{Kind: source.If, A: num(0), Then: list[:n], Else: list[:m]}}
	}
	names(t, pieces(3, 4), "a", "b")
	names(t, pieces(4, 5), "a", "b", "c")
	names(t, pieces(5, 3), "a", "b", "c")
	checks(t, pieces(5, 6), api.ErrTree)
	checks(t, pieces(6, 5), api.ErrTree)
	checks(t, pieces(0, 6), api.ErrTree)
	checks(t, []source.Stmt{{Kind: source.If, A: num(0), Then: list[:3], Else: list[3:]}}, api.ErrTree)
}

// A hundred lists make a tree with more nodes than can be gone through one by one.
func TestTreesBeyondCounting(t *testing.T) {
	for bottom, want := range map[string]api.Errno{"a": api.ErrDeep, "A": api.ErrTree} {
		e, list := name(bottom), []source.Stmt{assign(bottom, num(1))}
		for range 100 {
			e = two(e, "+", e)
			list = []source.Stmt{{Kind: source.If, A: num(1), Then: list, Else: list}, {Kind: source.While, A: num(0), Then: list}}
		}
		checks(t, []source.Stmt{returns(e)}, want)
		checks(t, list, want)
	}
	e, list := num(1), assigns(9)
	for range 20 {
		e = two(e, "+", e)
		list = []source.Stmt{{Kind: source.If, A: num(1), Then: list, Else: list}}
	}
	checks(t, []source.Stmt{returns(e)}, api.ErrBig)
	checks(t, list, api.ErrNames)
	// 2^63 nodes and more, not too deep
	list = times(512, aborts())
	for range 6 {
		list = times(512, source.Stmt{Kind: source.While, A: num(1), Then: list})
		checks(t, list, api.ErrBig)
	}
}
