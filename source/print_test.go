package source_test

import (
	"strings"
	"testing"

	"braid/api"
	"braid/fixture"
	"braid/source"
)

// samples are an expression of each strength at least, in each of its ways, and its text; their names differ from x's.
func samples(x string) map[string]source.Expr {
	list := map[string]source.Expr{
		"7": num(7), x: name(x), "[" + x + "]": one(source.Object, name(x)), "take [" + x + "]": one(source.Taken, name(x)),
		"-" + x: one(source.Minus, name(x)), "!" + x: one(source.Not, name(x)),
		"min(" + x + ", 1)": two(name(x), "min", num(1)), "max(1, " + x + ")": two(num(1), "max", name(x)),
	}
	for _, ops := range strengths {
		for _, op := range strings.Fields(ops) {
			list[x+" "+op+" 1"] = two(name(x), op, num(1))
		}
	}
	return list
}

// printsExpr looks that an expression has that text, that the text is the expression's, and that it would be no more without
// any one pair of its round brackets that are no call's.
func printsExpr(t *testing.T, e source.Expr, want string) {
	t.Helper()
	prints(t, []source.Stmt{returns(e)}, "return "+want+";\n")
	for at := range want {
		if want[at] != '(' || at > 0 && want[at-1] == 'n' || at > 0 && want[at-1] == 'x' {
			continue
		}
		end := at + matching(want[at:])
		bare := want[:at] + " " + want[at+1:end] + " " + want[end+1:]
		if prog, f := source.Parse("return " + bare + ";"); f.Err == api.OK && fixture.SameTree(prog, []source.Stmt{returns(e)}) {
			t.Errorf("Print says %q, but %q is the same", want, bare)
		}
	}
}

// matching is the place of the bracket that closes the first one.
func matching(text string) int {
	deep := 0
	for at, c := range text {
		deep += strings.Count("(", string(c)) - strings.Count(")", string(c))
		if deep == 0 {
			return at
		}
	}
	return -1
}

// Each strength on either side of each other one: brackets stand by the chapter's rule.
func TestBrackets(t *testing.T) {
	for strength, ops := range strengths {
		for _, op := range strings.Fields(ops) {
			for l, left := range samples("l") {
				if s := plainStrength(left); s < strength || s == 3 && strength == 3 {
					l = "(" + l + ")"
				}
				for r, right := range samples("r") {
					if plainStrength(right) <= strength {
						r = "(" + r + ")"
					}
					want := l + " " + op + " " + r
					if text, e := source.Print([]source.Stmt{returns(two(left, op, right))}); text != "return "+want+";\n" || e != api.OK {
						t.Errorf("Print = %q, %d, want %q", text, e, want)
					}
					means(t, want, two(left, op, right))
				}
			}
		}
	}
}

// Brackets stand just if they must.
func TestNoBracketsMore(t *testing.T) {
	for _, ops := range strengths {
		for _, op := range strings.Fields(ops) {
			for _, e := range samples("a") {
				l, r := two(e, op, name("b")), two(name("b"), op, e)
				printsExpr(t, l, plainText(l))
				printsExpr(t, r, plainText(r))
			}
		}
	}
}

// In calls and square brackets none stand; of Minus and Not, those around what is weaker.
func TestBracketsOfOthers(t *testing.T) {
	for text, e := range samples("a") {
		printsExpr(t, one(source.Object, e), "["+text+"]")
		printsExpr(t, one(source.Taken, e), "take ["+text+"]")
		printsExpr(t, two(e, "min", e), "min("+text+", "+text+")")
		printsExpr(t, two(num(1), "max", e), "max(1, "+text+")")
		if e.Kind == source.Binary && !strings.HasPrefix(text, "m") {
			text = "(" + text + ")"
		}
		printsExpr(t, one(source.Minus, e), "-"+text)
		printsExpr(t, one(source.Not, e), "!"+text)
		printsExpr(t, one(source.Minus, one(source.Not, e)), "-!"+text)
		printsExpr(t, one(source.Not, one(source.Minus, e)), "!-"+text)
		printsExpr(t, one(source.Not, one(source.Not, e)), "!!"+text)
		printsExpr(t, one(source.Minus, one(source.Minus, e)), "--"+text)
	}
}

func TestPrintExprs(t *testing.T) {
	for _, text := range []string{
		"0", "9223372036854775807", "a", "[0]", "take [0]", "[[[a]]]", "take [take [a]]", "[take [[a]]]",
		"a - b - c", "a - (b - c)", "a - (b - c) - d", "a - (b - (c - d))", "a || b || c", "a || (b || c)", "a && (b && c)", "a * (b / c) % d", "a << (b << c)",
		"a < b", "(a < b) < c", "a < (b < c)", "(a < b) == (c < d)", "((a == b) != c) < (d > (e >= f))", "!(a < b) < c", "-(a < b)", "(a < b) + c", "a + (b < c)",
		"a + b * c", "(a + b) * c", "a * (b + c)", "a * b + c * d", "(a || b) && c", "a || b && c", "a && (b || c)", "(a && b) < c", "a + b < c * d", "a < b && c > d || e != f",
		"-a", "-(-a + b)", "-a + b", "-a - -b", "--1", "!!a", "-!-!a", "!(a && b)", "-(a * b)", "-a * b", "-min(a, b)", "-[a]", "-take [a]", "!(a == b) && c", "a * -b", "a - -(b + c)",
		"min(a || b, c < d)", "max(min(a, b), -c)", "min(a, b) * max(c, d)", "min((a < b) < c, 1)", "[a || b]", "take [a + b * c]", "[a] + take [b]",
	} {
		lays(t, "return "+text+";", "return "+text+";\n")
	}
	for text, want := range map[string]string{
		"((a))": "a", "(1)": "1", "(a + b) + c": "a + b + c", "(a * b) + c": "a * b + c", "a + (b * c)": "a + b * c", "(a < b) && c": "a < b && c", "a || (b && c)": "a || b && c",
		"(-a) + b": "-a + b", "-(-a)": "--a", "-(a)": "-a", "!([a])": "![a]", "(min(a, b)) < c": "min(a, b) < c", "min((a), (b + c))": "min(a, b + c)", "[(a)]": "[a]", "take[(a)]": "take [a]",
		"a-b": "a - b", "- 1": "-1", "! a": "!a", "a--b": "a - -b", "min(a,b)": "min(a, b)", "a * (-b)": "a * -b", "(!a) == b": "!a == b", "(a || b)": "a || b",
	} {
		lays(t, "return "+text+";", "return "+want+";\n")
	}
}

func TestPrintStatements(t *testing.T) {
	lays(t, "x:=1;[a]:=b;release[c];abort;return d;", "x := 1;\n[a] := b;\nrelease [c];\nabort;\nreturn d;\n")
	lays(t, "x := (a || b); [(a || b)] := (a || b); release [(a || b)]; return (a || b);", "x := a || b;\n[a || b] := a || b;\nrelease [a || b];\nreturn a || b;\n")
	lays(t, "while(a||b){}", "while a || b {\n}\n")
	lays(t, "while a { abort; abort; }", "while a {\n\tabort;\n\tabort;\n}\n")
	lays(t, "if(a||b){}", "if a || b {\n}\n")
	lays(t, "# nothing\n", "")
}

// Then and Else, each empty, of one statement and of two, and of an If or a While.
func TestPrintIfs(t *testing.T) {
	for text, want := range map[string]string{
		"if a {}":                                   "if a {\n}\n",
		"if a {} else {}":                           "if a {\n}\n",
		"if a {} else {abort;}":                     "if a {\n} else {\n\tabort;\n}\n",
		"if a {abort;} else {}":                     "if a {\n\tabort;\n}\n",
		"if a {abort;} else {abort;}":               "if a {\n\tabort;\n} else {\n\tabort;\n}\n",
		"if a {} else {abort;abort;}":               "if a {\n} else {\n\tabort;\n\tabort;\n}\n",
		"if a {} else {if b {}}":                    "if a {\n} else if b {\n}\n",
		"if a {} else if b {}":                      "if a {\n} else if b {\n}\n",
		"if a {} else {if b {} abort;}":             "if a {\n} else {\n\tif b {\n\t}\n\tabort;\n}\n",
		"if a {} else {abort; if b {}}":             "if a {\n} else {\n\tabort;\n\tif b {\n\t}\n}\n",
		"if a {} else {if b {} if c {}}":            "if a {\n} else {\n\tif b {\n\t}\n\tif c {\n\t}\n}\n",
		"if a {} else {while b {}}":                 "if a {\n} else {\n\twhile b {\n\t}\n}\n",
		"if a {if b {}}":                            "if a {\n\tif b {\n\t}\n}\n",
		"if a {if b {} else {abort;}}":              "if a {\n\tif b {\n\t} else {\n\t\tabort;\n\t}\n}\n",
		"if a {if b {}} else {abort;}":              "if a {\n\tif b {\n\t}\n} else {\n\tabort;\n}\n",
		"if a {} else if b {} else {}":              "if a {\n} else if b {\n}\n",
		"if a {} else if b {} else if c {} else {}": "if a {\n} else if b {\n} else if c {\n}\n",
		"if a {} else if b {abort;} else if c {abort;} else {abort;} abort;":     "if a {\n} else if b {\n\tabort;\n} else if c {\n\tabort;\n} else {\n\tabort;\n}\nabort;\n",
		"if a {} else {if b {} else {if c {} else {while d {abort;}}}}":          "if a {\n} else if b {\n} else if c {\n} else {\n\twhile d {\n\t\tabort;\n\t}\n}\n",
		"if a {} else if b {if c {} else if d {abort;}} else {if e {}}":          "if a {\n} else if b {\n\tif c {\n\t} else if d {\n\t\tabort;\n\t}\n} else if e {\n}\n",
		"while a {if b {} else if c {abort;} while d {while e {abort;}} abort;}": "while a {\n\tif b {\n\t} else if c {\n\t\tabort;\n\t}\n\twhile d {\n\t\twhile e {\n\t\t\tabort;\n\t\t}\n\t}\n\tabort;\n}\n",
	} {
		lays(t, text, want)
	}
}

// Blocks in blocks: a tab for each block around a statement, none for an else that is followed by an if.
func TestPrintDeepBlocks(t *testing.T) {
	list, want := []source.Stmt{aborts()}, "abort;\n"
	for n := 0; n < 23; n++ {
		prints(t, list, want)
		list = []source.Stmt{{Kind: source.While, A: num(1), Then: list}}
		want = "while 1 {\n\t" + strings.ReplaceAll(strings.TrimSuffix(want, "\n"), "\n", "\n\t") + "\n}\n"
	}
	prints(t, list, want)
	list, want = []source.Stmt{aborts()}, "{\n\tabort;\n}\n"
	for n := 0; n < 23; n++ {
		list = []source.Stmt{{Kind: source.If, A: num(1), Else: list}}
		want = "if 1 {\n} else " + want
		prints(t, list, want)
	}
}

// Lists that are nil and lists that are empty print the same.
func TestPrintEmptyLists(t *testing.T) {
	none, no := []source.Stmt{}, []source.Expr{}
	empty := source.Expr{Args: no}
	five := source.Expr{Kind: source.Number, Num: 5, Args: no}
	prints(t, none, "")
	prints(t, []source.Stmt{{Kind: source.If, A: five, B: empty, Then: none, Else: none}}, "if 5 {\n}\n")
	prints(t, []source.Stmt{{Kind: source.Abort, A: empty, B: empty, Then: none, Else: none}}, "abort;\n")
	prints(t, []source.Stmt{{Kind: source.Return, A: source.Expr{Kind: source.Name, Word: "a", Args: no}, Then: none}}, "return a;\n")
}

// The longest texts that there are keep to MaxSource, and are read again.
func TestPrintFits(t *testing.T) {
	long := strings.Repeat("z", 16)
	most := one(source.Taken, name(long))
	for _, fill := range []source.Stmt{
		{Kind: source.Store, A: num(1<<63 - 1), B: num(1<<63 - 1)},
		{Kind: source.Store, A: most, B: most},
		{Kind: source.Store, A: two(num(1), "max", name(long)), B: two(num(1<<63-1), "max", num(1<<63-1))},
		{Kind: source.Release, A: num(1<<63 - 1)},
		{Kind: source.While, A: num(1<<63 - 1)},
		{Kind: source.While, A: name(long)},
		{Kind: source.If, A: num(1<<63 - 1)},
		assign(long, num(1<<63-1)),
		returns(num(1<<63 - 1)),
		aborts(),
	} {
		for deep := range 22 {
			fits(t, fill, deep)
		}
	}
	sum := num(1<<63 - 1)
	for range 7 { // brackets around every right operand
		sum = two(sum, "-", sum)
	}
	fits(t, assign(long, sum), 0)
}

// fits looks at a program of so many blocks around as many statements of a kind as there may be.
func fits(t *testing.T, fill source.Stmt, deep int) {
	t.Helper()
	nodes := len(nodesOf([]source.Stmt{fill}))
	list := times((512-2*deep)/nodes, fill)
	for range deep {
		list = []source.Stmt{{Kind: source.While, A: num(1<<63 - 1), Then: list}}
	}
	if source.Check(list) == api.ErrDeep {
		return
	}
	text, e := source.Print(list)
	if e != api.OK || len(text) > 32768 {
		t.Errorf("Print: %d bytes, %d", len(text), e)
	}
	says(t, text, list...)
}
