package compile

import (
	"slices"

	"braid/lang"
	"braid/source"
	"braid/word"
)

// compiler lays instructions down, one behind the other.
type compiler struct {
	names []string
	code  []lang.Instr
}

func (c *compiler) lay(in lang.Instr) { c.code = append(c.code, in) }

// into lays down an instruction that fills the temporary d, and answers that register.
func (c *compiler) into(d int, in lang.Instr) lang.Operand {
	in.Dst = len(c.names) + d
	c.lay(in)
	return register(in.Dst)
}

func (c *compiler) variable(name string) int { return slices.Index(c.names, name) }

func number(n int64) lang.Operand { return lang.Operand{Num: n} }

func register(n int) lang.Operand { return lang.Operand{Reg: true, Num: int64(n)} }

func (c *compiler) statements(list []source.Stmt) {
	for i := range list {
		c.statement(&list[i])
	}
}

// statement lays one statement down (P25.4).
func (c *compiler) statement(s *source.Stmt) {
	switch s.Kind {
	case source.Assign:
		c.lay(lang.Instr{Code: lang.Let, X: c.value(&s.A, 0), Dst: c.variable(s.Word)})
	case source.Store:
		x, y := c.operands(&s.A, &s.B, 0)
		c.lay(lang.Instr{Code: lang.Put, Obj: x, X: y})
	case source.Release:
		c.lay(lang.Instr{Code: lang.Drop, Obj: c.value(&s.A, 0)})
	case source.If:
		c.branches(s)
	case source.While:
		start := len(c.code)
		end := c.unless(&s.A, 0)
		c.statements(s.Then)
		c.lay(lang.Instr{Code: lang.Goto, To: start})
		end()
	case source.Abort:
		c.lay(lang.Instr{Code: lang.Quit})
	case source.Return:
		c.lay(lang.Instr{Code: lang.Done, X: c.value(&s.A, 0)})
	}
}

func (c *compiler) branches(s *source.Stmt) {
	next := c.unless(&s.A, 0)
	c.statements(s.Then)
	if len(s.Else) > 0 {
		end := c.leave()
		next()
		c.statements(s.Else)
		next = end
	}
	next()
}

// value lays down what works an expression out in the temporaries from d on, and answers its operand (P25.2).
func (c *compiler) value(e *source.Expr, d int) lang.Operand {
	switch e.Kind {
	case source.Number:
		return number(e.Num)
	case source.Name:
		return register(c.variable(e.Word))
	case source.Object:
		return c.into(d, lang.Instr{Code: lang.Get, Obj: c.value(&e.Args[0], d)})
	case source.Taken:
		return c.into(d, lang.Instr{Code: lang.Take, Obj: c.value(&e.Args[0], d)})
	case source.Minus:
		return c.into(d, lang.Instr{Code: lang.Calc, Op: word.Sub, Y: c.value(&e.Args[0], d)})
	}
	op := turn(e.Word).op
	if op == 0 {
		return c.truth(e, d)
	}
	x, y := c.operands(&e.Args[0], &e.Args[1], d)
	return c.into(d, lang.Instr{Code: lang.Calc, Op: op, X: x, Y: y})
}

// operands works two expressions out. What the first one leaves in a temporary stays there while the second one is worked out.
func (c *compiler) operands(first, second *source.Expr, d int) (x, y lang.Operand) {
	x = c.value(first, d)
	if first.Kind != source.Number && first.Kind != source.Name {
		d++
	}
	return x, c.value(second, d)
}

// truth works out an expression that is 1 or 0.
func (c *compiler) truth(e *source.Expr, d int) lang.Operand {
	no := c.unless(e, d)
	c.into(d, lang.Instr{Code: lang.Let, X: number(1)})
	end := c.leave()
	no()
	told := c.into(d, lang.Instr{Code: lang.Let, X: number(0)})
	end()
	return told
}

// leave lays a Goto down; what it answers is to be called where that leads.
func (c *compiler) leave() (here func()) {
	l := &label{in: c}
	l.from(lang.Instr{Code: lang.Goto})
	return l.here
}

// unless jumps where an expression is false; what it answers is to be called where that leads.
func (c *compiler) unless(e *source.Expr, d int) (here func()) { return c.where(e, false, d) }

// where jumps where an expression is true, or where it is false; what it answers is to be called where that leads.
func (c *compiler) where(e *source.Expr, when bool, d int) (here func()) {
	l := &label{in: c}
	c.jump(e, when, d, l)
	return l.here
}

// jump lays down what leads to a label where an expression is true, or where it is false, and goes on where not (P25.3).
func (c *compiler) jump(e *source.Expr, when bool, d int, to *label) {
	t := turn(e.Word)
	switch {
	case e.Kind == source.Not:
		c.jump(&e.Args[0], !when, d, to)
	case e.Word == "&&" || e.Word == "||":
		c.either(e, when, d, to)
	case t.rel(when) != 0:
		x, y := c.operands(&e.Args[0], &e.Args[1], d)
		to.from(lang.Instr{Code: lang.If, X: x, Rel: t.rel(when), Y: y})
	default:
		to.from(lang.Instr{Code: lang.If, X: c.value(e, d), Rel: turn("!=").rel(when)})
	}
}

// either is the jump of && and ||. For one of the two ways an operand alone is enough; for the other one the first operand
// leads past the second where it says that it will not be.
func (c *compiler) either(e *source.Expr, when bool, d int, to *label) {
	first, second := &e.Args[0], &e.Args[1]
	if when == (e.Word == "||") {
		c.jump(first, when, d, to)
		c.jump(second, when, d, to)
		return
	}
	past := c.where(first, !when, d)
	c.jump(second, when, d, to)
	past()
}
