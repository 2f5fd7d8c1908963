package source_test

import (
	"math/big"
	"regexp"
	"slices"
	"strconv"
	"strings"

	"braid/api"
	"braid/fixture"
	"braid/source"
)

// What follows says the chapter once more, as plainly as can be: tokens by patterns; whether tokens are the beginning of a
// program by going all ways through the grammar at once; trees by cutting valid tokens at their loosest operators; what can
// be by lists of all nodes.

var (
	aGap   = regexp.MustCompile(`\A([ \t\n]|#[^\n]*)+`)
	aToken = regexp.MustCompile(`\A([a-z][a-z0-9]*|[0-9]+|:=|\|\||&&|==|!=|<=|>=|<<|>>|[][;{}(),<>+|^*/%&!-])`)
	aName  = regexp.MustCompile(`\A[a-z][a-z0-9]{0,15}\z`)
	aWord  = regexp.MustCompile(`\A[a-z]`)
	digits = regexp.MustCompile(`\A[0-9]`)
	aZero  = regexp.MustCompile(`\A0[0-9]`)
)

func isKept(w string) bool { return slices.Contains(strings.Fields(keptWords), w) }

func isName(w string) bool { return aName.MatchString(w) && !isKept(w) }

// token is one of a text, and the place of its first byte.
type token struct {
	text string
	at   int
}

// tokensOf answers the tokens up to the text's end, or up to the byte at which none begins, and the place of either.
func tokensOf(text string) (tokens []token, end int, all bool) {
	for at := 0; ; {
		at += len(aGap.FindString(text[at:]))
		if at == len(text) {
			return tokens, at, true
		}
		w := aToken.FindString(text[at:])
		n, _ := new(big.Int).SetString(w, 10)
		long := aWord.MatchString(w) && len(w) > 16
		if w == "" || long || aZero.MatchString(w) || n != nil && !n.IsInt64() {
			return tokens, at, false
		}
		tokens = append(tokens, token{w, at})
		at += len(w)
	}
}

// rules are the chapter's grammar: of each line the first word may be what the others say.
var rules = grammar(`
	list: statement
	list: list statement
	block: { }
	block: { list }
	statement: NAME := or ;
	statement: [ or ] := or ;
	statement: release [ or ] ;
	statement: branch
	statement: while or block
	statement: abort ;
	statement: return or ;
	branch: if or block
	branch: if or block else block
	branch: if or block else branch
	or: and
	or: or || and
	and: comparison
	and: and && comparison
	comparison: sum
	comparison: sum == sum
	comparison: sum != sum
	comparison: sum < sum
	comparison: sum <= sum
	comparison: sum > sum
	comparison: sum >= sum
	sum: product
	sum: sum + product
	sum: sum - product
	sum: sum | product
	sum: sum ^ product
	product: operand
	product: product * operand
	product: product / operand
	product: product % operand
	product: product & operand
	product: product << operand
	product: product >> operand
	operand: - operand
	operand: ! operand
	operand: last
	last: NUMBER
	last: NAME
	last: [ or ]
	last: take [ or ]
	last: min ( or , or )
	last: max ( or , or )
	last: ( or )`)

func grammar(text string) [][]string {
	var rules [][]string
	for _, line := range strings.Split(strings.TrimSpace(text), "\n") {
		words := strings.Fields(line)
		words[0] = strings.TrimSuffix(words[0], ":")
		rules = append(rules, words)
	}
	return rules
}

// spot is a place in a rule, and how many tokens stood ahead of what the rule says.
type spot struct{ rule, place, from int }

// next is what a spot waits for, "": nothing more.
func (s spot) next() string {
	if s.place == len(rules[s.rule]) {
		return ""
	}
	return rules[s.rule][s.place]
}

// walker is at all spots at once to which its tokens may have led.
type walker struct {
	spots [][]spot
	been  map[spot]bool // in the last list
}

func (w *walker) add(s spot) {
	last := len(w.spots) - 1
	if !w.been[s] {
		w.been[s] = true
		w.spots[last] = append(w.spots[last], s)
	}
}

func (w *walker) open(what string) {
	for rule, words := range rules {
		if words[0] == what {
			w.add(spot{rule, 1, len(w.spots) - 1})
		}
	}
}

// close goes on from all spots that need no token to go on.
func (w *walker) close() {
	last := len(w.spots) - 1
	for i := 0; i < len(w.spots[last]); i++ {
		s := w.spots[last][i]
		if s.next() != "" {
			w.open(s.next())
			continue
		}
		for _, waits := range w.spots[s.from] {
			if waits.next() == rules[s.rule][0] {
				w.add(spot{waits.rule, waits.place + 1, waits.from})
			}
		}
	}
}

func newWalker() *walker {
	w := &walker{spots: make([][]spot, 1), been: map[spot]bool{}}
	w.open("list")
	w.close()
	return w
}

// goes goes on by a token; false: the tokens are the beginning of no program.
func (w *walker) goes(t token) bool {
	class := t.text
	switch {
	case digits.MatchString(class):
		class = "NUMBER"
	case isName(class):
		class = "NAME"
	}
	ahead := w.spots[len(w.spots)-1]
	w.spots, w.been = append(w.spots, nil), map[spot]bool{}
	for _, s := range ahead {
		if s.next() == class {
			w.add(spot{s.rule, s.place + 1, s.from})
		}
	}
	w.close()
	return len(w.spots[len(w.spots)-1]) > 0
}

// whole tells whether the tokens are a program.
func (w *walker) whole() bool {
	last := len(w.spots) - 1
	return last == 0 || slices.ContainsFunc(w.spots[last], func(s spot) bool {
		return s.from == 0 && s.next() == "" && rules[s.rule][0] == "list"
	})
}

// plainFault is the place of a text's first fault; -1: it has none.
func plainFault(text string) int {
	tokens, end, all := tokensOf(text)
	w := newWalker()
	for _, t := range tokens {
		if !w.goes(t) {
			return t.at
		}
	}
	if all && w.whole() {
		return -1
	}
	return end
}

func plainParse(text string) ([]source.Stmt, source.Fault) {
	if len(text) > 32768 {
		return nil, source.Fault{Err: api.ErrSource}
	}
	if at := plainFault(text); at >= 0 {
		ahead := strings.Split(text[:at], "\n")
		return nil, source.Fault{Err: api.ErrToken, Line: len(ahead), Col: len(ahead[len(ahead)-1]) + 1}
	}
	tokens, _, _ := tokensOf(text)
	var words []string
	for _, t := range tokens {
		words = append(words, t.text)
	}
	prog := plainList(words)
	if e := plainCheck(prog); e != api.OK {
		return nil, source.Fault{Err: e}
	}
	return prog, source.Fault{}
}

// upTo cuts words ahead of the first one that is that one and stands in no brackets, which goes.
func upTo(words []string, end string) (ahead, behind []string) {
	deep := 0
	for i, w := range words {
		if deep == 0 && w == end {
			return words[:i], words[i+1:]
		}
		deep += strings.Count("([{", w) - strings.Count(")]}", w)
	}
	panic("no " + end)
}

func plainList(words []string) []source.Stmt {
	var list []source.Stmt
	for len(words) > 0 {
		var s source.Stmt
		s, words = plainStmt(words)
		list = append(list, s)
	}
	return list
}

func plainStmt(words []string) (source.Stmt, []string) {
	if words[0] == "if" || words[0] == "while" {
		return plainBranch(words)
	}
	line, rest := upTo(words, ";")
	switch line[0] {
	case "abort":
		return source.Stmt{Kind: source.Abort}, rest
	case "return":
		return source.Stmt{Kind: source.Return, A: plainExpr(line[1:])}, rest
	case "release":
		return source.Stmt{Kind: source.Release, A: plainExpr(line[2 : len(line)-1])}, rest
	case "[":
		left, right := upTo(line, ":=")
		return source.Stmt{Kind: source.Store, A: plainExpr(left[1 : len(left)-1]), B: plainExpr(right)}, rest
	}
	return source.Stmt{Kind: source.Assign, Word: line[0], A: plainExpr(line[2:])}, rest
}

func plainBranch(words []string) (source.Stmt, []string) {
	test, rest := upTo(words[1:], "{")
	then, rest := upTo(rest, "}")
	s := source.Stmt{Kind: source.While, A: plainExpr(test), Then: plainList(then)}
	if words[0] == "while" {
		return s, rest
	}
	s.Kind = source.If
	if len(rest) == 0 || rest[0] != "else" {
		return s, rest
	}
	if rest[1] == "if" {
		var other source.Stmt
		other, rest = plainStmt(rest[1:])
		s.Else = []source.Stmt{other}
		return s, rest
	}
	block, rest := upTo(rest[2:], "}")
	s.Else = plainList(block)
	return s, rest
}

// loosest is the place of the last one of the loosest operators that stand between operands, in no brackets; -1: none does.
func loosest(words []string) int {
	for _, ops := range strengths[1:] {
		deep := 0
		for i := len(words) - 1; i > 0; i-- {
			deep += strings.Count(")]", words[i]) - strings.Count("([", words[i])
			ended := isName(words[i-1]) || digits.MatchString(words[i-1]) || strings.Contains(")]", words[i-1])
			if deep == 0 && ended && slices.Contains(strings.Fields(ops), words[i]) {
				return i
			}
		}
	}
	return -1
}

func plainExpr(words []string) source.Expr {
	if i := loosest(words); i >= 0 {
		return two(plainExpr(words[:i]), words[i], plainExpr(words[i+1:]))
	}
	last := len(words) - 1
	switch w := words[0]; w {
	case "-":
		return one(source.Minus, plainExpr(words[1:]))
	case "!":
		return one(source.Not, plainExpr(words[1:]))
	case "(":
		return plainExpr(words[1:last])
	case "[":
		return one(source.Object, plainExpr(words[1:last]))
	case "take":
		return one(source.Taken, plainExpr(words[2:last]))
	case "min", "max":
		left, right := upTo(words[2:last], ",")
		return two(plainExpr(left), w, plainExpr(right))
	default:
		if isName(w) {
			return name(w)
		}
		n, _ := strconv.ParseInt(w, 10, 64)
		return num(n)
	}
}

// node is a statement or an expression, and how deep it stands.
type node struct {
	depth int
	stmt  source.Stmt
	expr  source.Expr
	is    int // 1: a statement, 2: an expression
}

// nodesOf lists all nodes of a tree, each behind the one that it stands in. (A and B are nodes where they are not zero.)
func nodesOf(prog []source.Stmt) []node {
	var list []node
	stmts := func(depth int, stmts []source.Stmt) {
		for _, s := range stmts {
			list = append(list, node{depth: depth, stmt: s, is: 1})
		}
	}
	exprs := func(depth int, exprs ...source.Expr) {
		for _, e := range exprs {
			list = append(list, node{depth: depth, expr: e, is: 2})
		}
	}
	stmts(1, prog)
	for i := 0; i < len(list); i++ {
		n := list[i]
		for _, e := range []source.Expr{n.stmt.A, n.stmt.B} {
			if !fixture.SameExpr(e, source.Expr{}) {
				exprs(n.depth+1, e)
			}
		}
		stmts(n.depth+1, n.stmt.Then)
		stmts(n.depth+1, n.stmt.Else)
		exprs(n.depth+1, n.expr.Args...)
	}
	return list
}

// forms are how a node looks that can be: of each field that is other than zero a letter, and a number for how many Args. (A
// Number may be 0, and blocks may be empty.)
var (
	stmtForms = map[int]string{1: "Wa", 2: "ab", 3: "a", 4: "ate", 5: "at", 6: "", 7: "a"}
	exprForms = map[int]string{1: "n", 2: "W", 3: "1", 4: "1", 5: "1", 6: "1", 7: "O2"}
)

func (n node) canBe() bool {
	var form string
	letter := func(is bool, c string) {
		if is {
			form += c
		}
	}
	if n.is == 1 {
		want, ok := stmtForms[n.stmt.Kind]
		letter(isName(n.stmt.Word), "W")
		letter(!isName(n.stmt.Word) && n.stmt.Word != "", "?")
		letter(!fixture.SameExpr(n.stmt.A, source.Expr{}), "a")
		letter(!fixture.SameExpr(n.stmt.B, source.Expr{}), "b")
		letter(len(n.stmt.Then) > 0 || strings.Contains(want, "t"), "t")
		letter(len(n.stmt.Else) > 0 || strings.Contains(want, "e"), "e")
		return ok && form == want
	}
	want, ok := exprForms[n.expr.Kind]
	letter(n.expr.Num > 0 || n.expr.Kind == 1 && n.expr.Num == 0, "n")
	letter(n.expr.Num < 0, "?")
	op := slices.Contains(strings.Fields(operators), n.expr.Word)
	letter(op && n.expr.Kind == 7, "O")
	letter(isName(n.expr.Word), "W")
	letter(n.expr.Word != "" && !isName(n.expr.Word) && !(op && n.expr.Kind == 7), "?")
	letter(len(n.expr.Args) > 0, strconv.Itoa(len(n.expr.Args)))
	return ok && form == want
}

func plainCheck(prog []source.Stmt) api.Errno {
	nodes := nodesOf(prog)
	words := map[string]bool{}
	deep := 0
	for _, n := range nodes {
		if !n.canBe() {
			return api.ErrTree
		}
		if w := n.stmt.Word; w != "" {
			words[w] = true
		}
		if n.expr.Kind == source.Name {
			words[n.expr.Word] = true
		}
		deep = max(deep, n.depth)
	}
	switch {
	case len(words) > 8:
		return api.ErrNames
	case deep > 24:
		return api.ErrDeep
	case len(nodes) > 512:
		return api.ErrBig
	}
	return api.OK
}

// plainNames are the names in a text's tokens, each once.
func plainNames(text string) []string {
	var names []string
	tokens, _, _ := tokensOf(text)
	for _, t := range tokens {
		if isName(t.text) && !slices.Contains(names, t.text) {
			names = append(names, t.text)
		}
	}
	return names
}

// plainPrint lays out a program's lines, each with its tabs.
func plainPrint(prog []source.Stmt, tabs int) []string {
	var text []string
	line := func(words string) { text = append(text, strings.Repeat("\t", tabs)+words) }
	for _, s := range prog {
		a, b := plainText(s.A), plainText(s.B)
		switch s.Kind {
		case source.Assign:
			line(s.Word + " := " + a + ";")
		case source.Store:
			line("[" + a + "] := " + b + ";")
		case source.Release:
			line("release [" + a + "];")
		case source.Abort:
			line("abort;")
		case source.Return:
			line("return " + a + ";")
		case source.While:
			line("while " + a + " {")
			text = append(text, plainPrint(s.Then, tabs+1)...)
			line("}")
		case source.If:
			head := "if "
			for {
				line(head + plainText(s.A) + " {")
				text = append(text, plainPrint(s.Then, tabs+1)...)
				if len(s.Else) != 1 || s.Else[0].Kind != source.If {
					break
				}
				s, head = s.Else[0], "} else if "
			}
			if len(s.Else) > 0 {
				line("} else {")
				text = append(text, plainPrint(s.Else, tabs+1)...)
			}
			line("}")
		}
	}
	return text
}

func plainStrength(e source.Expr) int {
	switch e.Kind {
	case source.Minus, source.Not:
		return 6
	case source.Binary:
		for s, ops := range strengths {
			if slices.Contains(strings.Fields(ops), e.Word) {
				return s
			}
		}
	}
	return 7
}

func plainText(e source.Expr) string {
	var texts []string // of the Args, and these in brackets
	var inner []string
	var strong []int
	for _, a := range e.Args {
		text := plainText(a)
		texts = append(texts, text)
		inner = append(inner, "("+text+")")
		strong = append(strong, plainStrength(a))
	}
	own := plainStrength(e)
	switch e.Kind {
	case source.Number:
		return strconv.FormatInt(e.Num, 10)
	case source.Name:
		return e.Word
	case source.Object:
		return "[" + texts[0] + "]"
	case source.Taken:
		return "take [" + texts[0] + "]"
	case source.Minus, source.Not:
		if strong[0] < 6 {
			texts = inner
		}
		return map[int]string{source.Minus: "-", source.Not: "!"}[e.Kind] + texts[0]
	case source.Binary:
		if own == 7 {
			return e.Word + "(" + texts[0] + ", " + texts[1] + ")"
		}
		if strong[0] < own || own == 3 && strong[0] == 3 {
			texts[0] = inner[0]
		}
		if strong[1] <= own {
			texts[1] = inner[1]
		}
		return texts[0] + " " + e.Word + " " + texts[1]
	}
	return ""
}
