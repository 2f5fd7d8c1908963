package source_test

import (
	"strings"
	"testing"

	"braid/api"
	"braid/source"
)

func TestEachStatement(t *testing.T) {
	a, one1, zero := name("a"), num(1), one(source.Object, num(0))
	says(t, "x := a;", assign("x", a))
	says(t, "x := [0];", assign("x", zero))
	says(t, "[0] := a;", source.Stmt{Kind: source.Store, A: num(0), B: a})
	says(t, "[[0]] := [a];", source.Stmt{Kind: source.Store, A: zero, B: one(source.Object, a)})
	says(t, "[a + 1] := 1;", source.Stmt{Kind: source.Store, A: two(a, "+", one1), B: one1})
	says(t, "release [a];", source.Stmt{Kind: source.Release, A: a})
	says(t, "release [[0]];", source.Stmt{Kind: source.Release, A: zero})
	says(t, "abort;", aborts())
	says(t, "return a;", returns(a))
	says(t, "return [0];", returns(zero))
	says(t, "while a { }", source.Stmt{Kind: source.While, A: a})
	says(t, "while a { abort; return 1; }", source.Stmt{Kind: source.While, A: a, Then: []source.Stmt{aborts(), returns(one1)}})
	says(t, "while [0] { while a { abort; } }", source.Stmt{Kind: source.While, A: zero, Then: []source.Stmt{{Kind: source.While, A: a, Then: times(1, aborts())}}})
	says(t, "while (a) { }", source.Stmt{Kind: source.While, A: a})
	says(t, "abort; abort; x := 1; abort;", aborts(), aborts(), assign("x", one1), aborts())
}

func TestIfs(t *testing.T) {
	a, b := name("a"), name("b")
	abort, ret := times(1, aborts()), []source.Stmt{returns(num(1))}
	says(t, "if a { }", source.Stmt{Kind: source.If, A: a})
	says(t, "if a { abort; }", source.Stmt{Kind: source.If, A: a, Then: abort})
	says(t, "if a { } else { }", source.Stmt{Kind: source.If, A: a})
	says(t, "if a { abort; } else { return 1; }", source.Stmt{Kind: source.If, A: a, Then: abort, Else: ret})
	says(t, "if a { } else { abort; return 1; }", source.Stmt{Kind: source.If, A: a, Else: append(abort, ret...)})
	// an else goes with the If whose block stands just ahead of it
	inner := source.Stmt{Kind: source.If, A: b, Then: abort, Else: ret}
	says(t, "if a { } else if b { abort; } else { return 1; }", source.Stmt{Kind: source.If, A: a, Else: []source.Stmt{inner}})
	says(t, "if a { } else { if b { abort; } else { return 1; } }", source.Stmt{Kind: source.If, A: a, Else: []source.Stmt{inner}})
	says(t, "if a { if b { abort; } else { return 1; } }", source.Stmt{Kind: source.If, A: a, Then: []source.Stmt{inner}})
	half := source.Stmt{Kind: source.If, A: b, Then: abort}
	says(t, "if a { if b { abort; } } else { return 1; }", source.Stmt{Kind: source.If, A: a, Then: []source.Stmt{half}, Else: ret})
	// the If behind an else is the only one of Else: what follows stands behind the whole
	says(t, "if a { } else if b { abort; } abort;", source.Stmt{Kind: source.If, A: a, Else: []source.Stmt{half}}, aborts())
	says(t, "if a { } else { if b { abort; } abort; }", source.Stmt{Kind: source.If, A: a, Else: []source.Stmt{half, aborts()}})
	says(t, "if a { } else { } abort;", source.Stmt{Kind: source.If, A: a}, aborts())
	says(t, "if a { } if b { abort; }", source.Stmt{Kind: source.If, A: a}, half)
	says(t, "if a { } else if b { } else if a { } else { abort; }", source.Stmt{Kind: source.If, A: a, Else: []source.Stmt{{Kind: source.If, A: b, Else: []source.Stmt{{Kind: source.If, A: a, Else: abort}}}}})
}

// Each operator beside each other one, in a text without brackets.
func TestLevels(t *testing.T) {
	a, b, c := name("a"), name("b"), name("c")
	for left, lefts := range strengths {
		for right, rights := range strengths {
			for _, l := range strings.Fields(lefts) {
				for _, r := range strings.Fields(rights) {
					text := "a " + l + " b " + r + " c"
					switch {
					case left == 3 && right == 3:
						marked(t, "return a "+l+" b ~"+r+" c;")
						means(t, "(a "+l+" b) "+r+" c", two(two(a, l, b), r, c))
						means(t, "a "+l+" (b "+r+" c)", two(a, l, two(b, r, c)))
					case right > left:
						means(t, text, two(a, l, two(b, r, c)))
					default:
						means(t, text, two(two(a, l, b), r, c))
					}
				}
			}
		}
	}
}

func TestManyLevels(t *testing.T) {
	n := func(w string) source.Expr { return name(w) }
	means(t, "a || b && c < d + e * f", two(n("a"), "||", two(n("b"), "&&", two(n("c"), "<", two(n("d"), "+", two(n("e"), "*", n("f")))))))
	means(t, "a * b + c < d && e || f", two(two(two(two(two(n("a"), "*", n("b")), "+", n("c")), "<", n("d")), "&&", n("e")), "||", n("f")))
	means(t, "a - b - c - d", two(two(two(n("a"), "-", n("b")), "-", n("c")), "-", n("d")))
	means(t, "a - b + c | d ^ e", two(two(two(two(n("a"), "-", n("b")), "+", n("c")), "|", n("d")), "^", n("e")))
	means(t, "a / b * c % d & e << f >> g", two(two(two(two(two(two(n("a"), "/", n("b")), "*", n("c")), "%", n("d")), "&", n("e")), "<<", n("f")), ">>", n("g")))
	means(t, "a || b || c", two(two(n("a"), "||", n("b")), "||", n("c")))
	means(t, "a && b && c", two(two(n("a"), "&&", n("b")), "&&", n("c")))
	means(t, "a < b && c < d || e < f", two(two(two(n("a"), "<", n("b")), "&&", two(n("c"), "<", n("d"))), "||", two(n("e"), "<", n("f"))))
	means(t, "a < b || c < d && e < f", two(two(n("a"), "<", n("b")), "||", two(two(n("c"), "<", n("d")), "&&", two(n("e"), "<", n("f")))))
	means(t, "a * b < c * d", two(two(n("a"), "*", n("b")), "<", two(n("c"), "*", n("d"))))
	means(t, "a * (b + c) * d", two(two(n("a"), "*", two(n("b"), "+", n("c"))), "*", n("d")))
	means(t, "((a)) + (((b)))", two(n("a"), "+", n("b")))
}

// A second comparison is refused at every place from which it could come back to the first one.
func TestComparisons(t *testing.T) {
	for _, text := range []string{
		"return a < b ~< c;", "return a == b ~== c;", "return a + b < c * d ~>= e;", "return a || b < c ~< d;", "return a && b < c ~!= d;", "return a || b && c < d ~== e;", "return a < b && c < d ~< e;",
		"return a < b || c < d ~< e;", "return (a < b ~< c);", "return [a < b ~< c];", "return min(a < b ~< c, d);", "return max(a, b < c ~< d);", "return -a < b ~< c;", "return a < -b ~< c;", "return (a < b) < c ~< d;",
		"return a < (b < c) ~< d;", "return a < b + c ~< d;", "return a < b * c + d ~< e;", "if a < b ~< c { }", "while a < b ~< c { }", "[a < b ~< c] := 1;", "[1] := a < b ~< c;", "x := a < b ~< c;", "release [a < b ~< c];",
	} {
		marked(t, text)
	}
	a, b, c, d := name("a"), name("b"), name("c"), name("d")
	means(t, "(a < b) == (c < d)", two(two(a, "<", b), "==", two(c, "<", d)))
	means(t, "((a < b) == c) > d", two(two(two(a, "<", b), "==", c), ">", d))
	means(t, "!(a < b) < c", two(one(source.Not, two(a, "<", b)), "<", c))
	means(t, "!a < b", two(one(source.Not, a), "<", b))
	means(t, "[a < b] < c", two(one(source.Object, two(a, "<", b)), "<", c))
	means(t, "min(a < b, c) < d", two(two(two(a, "<", b), "min", c), "<", d))
	means(t, "a < b && b < c", two(two(a, "<", b), "&&", two(b, "<", c)))
}

func TestLastOnes(t *testing.T) {
	a, b := name("a"), name("b")
	minus := func(e source.Expr) source.Expr { return one(source.Minus, e) }
	not := func(e source.Expr) source.Expr { return one(source.Not, e) }
	means(t, "[a]", one(source.Object, a))
	means(t, "[[a]]", one(source.Object, one(source.Object, a)))
	means(t, "take [a]", one(source.Taken, a))
	means(t, "take [take [a]]", one(source.Taken, one(source.Taken, a)))
	means(t, "take [[a]]", one(source.Taken, one(source.Object, a)))
	means(t, "[a || b]", one(source.Object, two(a, "||", b)))
	means(t, "min(a, b)", two(a, "min", b))
	means(t, "max(a || b, a && b)", two(two(a, "||", b), "max", two(a, "&&", b)))
	means(t, "min(min(a, b), max(b, a))", two(two(a, "min", b), "min", two(b, "max", a)))
	means(t, "min((a), (b))", two(a, "min", b))
	means(t, "min(a, b) + max(b, a)", two(two(a, "min", b), "+", two(b, "max", a)))
	means(t, "-a", minus(a))
	means(t, "!a", not(a))
	means(t, "-!-!a", minus(not(minus(not(a)))))
	means(t, "- - -1", minus(minus(minus(num(1)))))
	means(t, "-a + b", two(minus(a), "+", b))
	means(t, "-a * b", two(minus(a), "*", b))
	means(t, "-a << -b", two(minus(a), "<<", minus(b)))
	means(t, "!a && !b", two(not(a), "&&", not(b)))
	means(t, "!(a && b)", not(two(a, "&&", b)))
	means(t, "-(a + b)", minus(two(a, "+", b)))
	means(t, "-[a]", minus(one(source.Object, a)))
	means(t, "-take [a]", minus(one(source.Taken, a)))
	means(t, "!min(a, b)", not(two(a, "min", b)))
	means(t, "a - -b", two(a, "-", minus(b)))
	means(t, "a--b", two(a, "-", minus(b)))
	means(t, "a---b", two(a, "-", minus(minus(b))))
	means(t, "(-a)", minus(a))
	means(t, "-(-a)", minus(minus(a)))
}

// Where a token may not stand: at each place of each statement and expression.
func TestWhereNot(t *testing.T) {
	for _, text := range []string{
		// statements
		"~;", "~{ }", "~{", "~}", "~)", "~(", "~]", "~:= 1;", "~1;", "~1 := 2;", "~-x := 1;", "~+", "~,", "~else", "~take [1] := 1;", "~min(1, 2) := 1;", "~max", "~!x", "~<", "abort; ~else { }", "abort; ~;", "abort; ~}",
		"x~;", "x ~x := 1;", "x ~[1] := 1;", "x ~(1);", "x ~1;", "x ~+ 1;", "x := ~:= 1;", "x := ~;", "x := 1 ~x := 2;", "x := 1 ~}", "x := 1 ~)", "x := 1 ~,", "x := 1 ~]", "x := 1 ~:= 2;", "x := 1 ~abort;", "x := 1; ~1;", "x := 1 ~if 1 { }", "x := 1 ~{ }",
		"[~] := 1;", "[~;", "[1~;", "[1 ~:= 1;", "[1 ~1] := 1;", "[1~, 2] := 1;", "[1] ~;", "[1] ~= 1;", "[1] ~== 1;", "[1] ~+ 1;", "[1] ~[2] := 1;", "[1] := ~;", "[1] := 1 ~]", "[1] := [2] ~:= 3;",
		"release ~;", "release ~1;", "release ~x;", "release ~(1);", "release ~take [1];", "release [~];", "release [1 ~;", "release [1] ~:= 1;", "release [1] ~+ 1;", "release [1] ~release [1];", "release [1]~}", "release ~release [1];",
		"abort ~1;", "abort ~abort;", "abort ~:= 1;", "abort ~}", "abort ~{ }", "abort ~[1];", "abort ~(1);",
		"return ~;", "return ~}", "return ~return 1;", "return ~if 1 { }", "return ~abort;", "return ~:= 1;", "return 1 ~2;", "return 1 ~return 1;", "return 1 ~}", "return x ~:= 1;", "return ~else;", "return ~while;", "return ~release [1];",
		// blocks
		"if ~{ }", "if ~;", "if ~if 1 { }", "if ~}", "if 1 ~;", "if 1 ~abort;", "if 1 ~}", "if 1 ~)", "if 1 ~else { }", "if 1 { ~else { }", "if 1 { ~{ } }", "if 1 { ~; }", "if 1 { abort ~}", "if 1 { abort; ~)", "if 1 { } ~}", "if 1 { } ~;", "if 1 { } ~{ }",
		"if 1 { } else ~;", "if 1 { } else ~abort;", "if 1 { } else ~while 1 { }", "if 1 { } else ~x := 1;", "if 1 { } else ~else { }", "if 1 { } else ~}", "if 1 { } else ~[1] := 1;", "if 1 { } else ~return 1;", "if 1 { } else ~(1)",
		"if 1 { } else { } ~else { }", "if 1 { } else { ~else { } }", "if 1 { } else if ~{ }", "if 1 { } else if 2 ~else { }", "if 1 { } else if 2 { } else { } ~else { }", "if 1 { } abort; ~else { }", "if 1 { if 2 { } } else { } ~else { }",
		"while ~{ }", "while ~;", "while 1 ~;", "while 1 ~abort;", "while 1 { } ~else { }", "while 1 { ~else { } }", "while 1 { } ~}", "while 1 { } ~;", "while x ~:= 1;",
		// expressions
		"return ~+ 1;", "return ~* 1;", "return ~/ 1;", "return ~% 1;", "return ~| 1;", "return ~^ 1;", "return ~& 1;", "return ~<< 1;", "return ~>> 1;", "return ~|| 1;", "return ~&& 1;", "return ~== 1;", "return ~!= 1;", "return ~< 1;", "return ~<= 1;", "return ~> 1;", "return ~>= 1;", "return ~, 1;", "return ~) 1;", "return ~] 1;",
		"return 1 + ~;", "return 1 + ~+ 1;", "return 1 * ~* 1;", "return 1 || ~|| 1;", "return 1 && ~&& 1;", "return 1 < ~< 1;", "return 1 + ~);", "return 1 ~!;", "return 1 ~!1;", "return 1 ~(2);", "return 1 ~[2];", "return x ~(2);", "return x ~[2];", "return 1 ~take [2];", "return 1 ~min 2;", "return 1 ~min(1, 2);",
		"return -~;", "return !~;", "return -~+ 1;", "return -~);", "return !~* 1;", "return - ~, 1;", "return (~);", "return (1 ~;", "return (1~, 2);", "return (1 ~2);", "return (1) ~);", "return (1 ~];", "return ((1) ~;", "return (1) ~(2);", "return (~;", "return (x ~:= 1);",
		"return [~];", "return [1 ~;", "return [1 ~);", "return [1 ~, 2];", "return [1 ~2];", "return [1] ~];", "return [1] ~[2];", "return [~;", "return [x ~:= 1];",
		"return take ~;", "return take ~1;", "return take ~x;", "return take ~(1);", "return take ~take [1];", "return take ~-[1];", "return take [~];", "return take [1 ~;", "return take [1] ~[2];", "~take [1];",
		"return min ~;", "return min ~1;", "return min ~[1];", "return min ~x;", "return min(~);", "return min(1 ~);", "return min(1, ~);", "return min(1 ~2);", "return min(1, 2 ~;", "return min(1, 2 ~, 3);", "return min(1, 2) ~(3);", "return max ~+ 1;", "return max(~, 1);", "return max(1, ~, 2);", "return max(1 ~;", "return max((1 ~, 2));", "return max(1, 2 ~];",
	} {
		marked(t, text)
	}
}

// Where a text ends that is no program: also behind gaps, and behind a newline.
func TestWhereItEnds(t *testing.T) {
	tokens := strings.Fields("x := min ( 1 , - 2 ) ; [ x ] := ! take [ 3 ] || ( 4 < 5 ) ; release [ 6 ] ; while 7 { abort ; } if 8 { return 9 ; } else if 10 { } else { y := 1 ; }")
	whole := map[int]bool{0: true, 10: true, 26: true, 31: true, 37: true, 44: true, 49: true, len(tokens): true}
	for n := range len(tokens) + 1 {
		text := strings.Join(tokens[:n], " ")
		for _, gap := range append(gaps, "", "#", "# x", "\n#", "\n\n # ?") {
			if whole[n] {
				reads(t, text+gap)
			} else {
				marked(t, text+gap+"~")
			}
		}
	}
}

// Of two faults the one that stands first: a token that may not stand there, or a byte at which none begins.
func TestTwoFaults(t *testing.T) {
	for _, text := range []string{
		"x := (1~; ?", "x := (~? ;", "~} ?", "~? }", "x ~x ?", "x ~? x", "~else ?", "~1 ?", "abort ~} ?", "return ~; ?", "return 1 ~2 ?", "return 1 ~2 007;", "return 1 ~007 2;", "return ~+ ?", "return a < b ~< ?", "return a ~? < b < c;",
		"if 1 { } ~} ?", "if 1 { } else ~; ?", "if ~{ ?", "x := 1 ~} ?", "~min ?", "x := min ~; ?", "x := take ~1 ?", "release ~x ?", "[1] ~; ?", "[1~; ?", "x := ~) ?",
		"x ~; abcdefghijklmnopq", "~abcdefghijklmnopq ;", "x := 1; ~? }", "x := 1; ~} ?", "\n~}\n?", "\n~?\n}", "~}?", "~?}", "x := ~;?", "x :=~?;", "x~=?", "~A;",
	} {
		marked(t, text)
	}
}

// Lines begin behind newlines alone; columns are counted in bytes.
func TestPlaces(t *testing.T) {
	for _, ahead := range []string{"", " ", "\t", "abort; ", "#ä\n", "# x\n", "\n", "\n\n", "\n \n\t", "abort;\n", "abort;#ä€\n", "\n#\n", "abort;\nabort; ", "if 1 { }\n", "if 1\n{\n\tabort;\n}\n\t"} {
		for _, behind := range []string{"}", "?", "ä", "A", "\r", "\r\n", "\x00", "\x80", "\xff", "} \n", "?\n\n", "007;", ")", ";"} {
			marked(t, ahead+"~"+behind)
		}
		marked(t, ahead+"abort ~")
		marked(t, ahead+"abort\n~")
		marked(t, ahead+"abort\n\n ~")
		marked(t, ahead+"abort #ä~")
	}
}

// What Check says of a text's tree comes behind all faults of tokens, and in its own order.
func TestFaultsOfTrees(t *testing.T) {
	many := "a:=b;c:=d;e:=f;g:=h;i:=1;"
	deep := "return " + strings.Repeat("-", 23) + "0;"
	big := strings.Repeat("abort;", 513)
	says(t, many[:20], assign("a", name("b")), assign("c", name("d")), assign("e", name("f")), assign("g", name("h")))
	reads(t, deep[:7]+deep[8:])
	reads(t, big[6:])
	refused(t, many, api.ErrNames)
	refused(t, deep, api.ErrDeep)
	refused(t, big, api.ErrBig)
	refused(t, big+deep+many, api.ErrNames)
	refused(t, big+many, api.ErrNames)
	refused(t, deep+many, api.ErrNames)
	refused(t, big+deep, api.ErrDeep)
	for _, text := range []string{many, deep, big, big + deep + many} {
		marked(t, text+"~}")
		marked(t, text+"~?")
		marked(t, text+"\n\nabort~")
		marked(t, "~;"+text)
	}
	// blocks and else-chains are deep, too; brackets are not
	refused(t, strings.Repeat("if 1 {", 24)+strings.Repeat("}", 24), api.ErrDeep)
	reads(t, strings.Repeat("if 1 {", 23)+strings.Repeat("}", 23))
	refused(t, strings.Repeat("while 1 {", 24)+strings.Repeat("}", 24), api.ErrDeep)
	refused(t, strings.Repeat("if 1 { } else ", 24)+"{ }", api.ErrDeep)
	reads(t, strings.Repeat("if 1 { } else ", 23)+"{ }")
	reads(t, "return "+strings.Repeat("(", 900)+"0"+strings.Repeat(")", 900)+";")
	refused(t, "return 1"+strings.Repeat("+1", 23)+";", api.ErrDeep)
	reads(t, "return 1"+strings.Repeat("+1", 22)+";")
}
