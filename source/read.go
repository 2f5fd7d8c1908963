package source

import (
	"strings"

	"braid/api"
	"braid/word"
)

// reader goes through a text token by token. A token is let go only when it may stand where it stands: the one behind it
// may be none, and the fault of the two that stands first is the text's.
type reader struct {
	text  string
	rest  string // the text from the present token on
	token string // "" behind the last one
}

func newReader(text string) *reader {
	r := &reader{text: text, rest: text}
	r.next()
	return r
}

// caught hands on the fault by which a reader left; whatever else is thrown is no text's fault.
func caught(left any) Fault {
	if fault, ok := left.(Fault); ok {
		return fault
	}
	panic(left)
}

// leave throws the fault at the present place up to Parse, from however deep in the text.
func (r *reader) leave() {
	ahead := r.text[:len(r.text)-len(r.rest)]
	panic(Fault{
		Err:  api.ErrToken,
		Line: strings.Count(ahead, "\n") + 1,
		Col:  len(ahead) - strings.LastIndexByte(ahead, '\n'),
	})
}

func (r *reader) next() {
	r.rest = spoken(r.rest[len(r.token):])
	r.token = first(r.rest)
	if r.token == "" && r.rest != "" {
		r.leave()
	}
}

// need goes on, if that token stands there.
func (r *reader) need(token string) {
	if r.token != token {
		r.leave()
	}
	r.next()
}

// take goes on, and answers the token, which is not to keep the whole text from being let go.
func (r *reader) take() string {
	token := strings.Clone(r.token)
	r.next()
	return token
}

// statements reads them up to a token, which is left standing there.
func (r *reader) statements(end string) []Stmt {
	var list []Stmt
	for r.token != end {
		list = append(list, r.statement())
	}
	return list
}

func (r *reader) statement() Stmt {
	switch r.token {
	case "if":
		return r.branch()
	case "while":
		r.next()
		return Stmt{Kind: While, A: r.expression(loosest), Then: r.block()}
	}
	s := r.simple()
	r.need(";")
	return s
}

func (r *reader) branch() Stmt {
	r.need("if")
	s := Stmt{Kind: If, A: r.expression(loosest), Then: r.block()}
	if r.token == "else" {
		r.next()
		s.Else = r.otherwise()
	}
	return s
}

func (r *reader) otherwise() []Stmt {
	if r.token == "if" {
		return []Stmt{r.branch()}
	}
	return r.block()
}

func (r *reader) block() []Stmt {
	r.need("{")
	list := r.statements("}")
	r.need("}")
	return list
}

// simple reads a statement without blocks, up to its semicolon.
func (r *reader) simple() Stmt {
	switch r.token {
	case "[":
		a := r.object()
		r.need(":=")
		return Stmt{Kind: Store, A: a, B: r.expression(loosest)}
	case "release":
		r.next()
		return Stmt{Kind: Release, A: r.object()}
	case "abort":
		r.next()
		return Stmt{Kind: Abort}
	case "return":
		r.next()
		return Stmt{Kind: Return, A: r.expression(loosest)}
	}
	if !isName(r.token) {
		r.leave()
	}
	name := r.take()
	r.need(":=")
	return Stmt{Kind: Assign, Word: name, A: r.expression(loosest)}
}

// object reads what stands in square brackets.
func (r *reader) object() Expr {
	r.need("[")
	e := r.expression(loosest)
	r.need("]")
	return e
}

// expression reads operands with operators between that are no weaker than least.
func (r *reader) expression(least int) Expr {
	left, strength := r.operand(), closed // of what has been read, brackets and all
	for {
		b := bindingOf(r.token)
		if b.strength < least || strength < b.left {
			return left
		}
		op := r.take()
		left = Expr{Kind: Binary, Word: op, Args: []Expr{left, r.expression(b.strength + 1)}}
		strength = b.strength
	}
}

func (r *reader) operand() Expr {
	switch r.token {
	case "-":
		r.next()
		return Expr{Kind: Minus, Args: []Expr{r.operand()}}
	case "!":
		r.next()
		return Expr{Kind: Not, Args: []Expr{r.operand()}}
	}
	return r.last()
}

func (r *reader) last() Expr {
	switch r.token {
	case "[":
		return Expr{Kind: Object, Args: []Expr{r.object()}}
	case "take":
		r.next()
		return Expr{Kind: Taken, Args: []Expr{r.object()}}
	case "min", "max":
		return r.pair()
	case "(":
		r.next()
		e := r.expression(loosest)
		r.need(")")
		return e
	}
	if isName(r.token) {
		return Expr{Kind: Name, Word: r.take()}
	}
	return r.number()
}

// pair reads an operator that stands ahead of both its operands.
func (r *reader) pair() Expr {
	op := r.take()
	r.need("(")
	left := r.expression(loosest)
	r.need(",")
	right := r.expression(loosest)
	r.need(")")
	return Expr{Kind: Binary, Word: op, Args: []Expr{left, right}}
}

func (r *reader) number() Expr {
	n, e := word.Parse(r.token)
	if e != api.OK {
		r.leave()
	}
	r.next()
	return Expr{Kind: Number, Num: n}
}
