package meaning

import (
	"braid/api"
	"braid/source"
	"braid/word"
)

// The place of an operator's word is the operator; place 0 is nobody's.
var operators = [...]string{
	word.Add: "+",
	word.Sub: "-",
	word.Mul: "*",
	word.Div: "/",
	word.Rem: "%",
	word.And: "&",
	word.Or:  "|",
	word.Xor: "^",
	word.Shl: "<<",
	word.Shr: ">>",
	word.Min: "min",
	word.Max: "max",
}

// value evaluates an expression (P24.4).
func (r *run) value(e *source.Expr) int64 {
	r.tick()
	switch e.Kind {
	case source.Number:
		return e.Num
	case source.Name:
		return r.vars[e.Word]
	case source.Object:
		return r.read(r.value(&e.Args[0]))
	case source.Taken:
		return r.write(r.value(&e.Args[0]))
	case source.Minus:
		return -r.value(&e.Args[0])
	case source.Not:
		return truth(r.value(&e.Args[0]) == 0)
	}
	return r.binary(e)
}

func (r *run) binary(e *source.Expr) int64 {
	left := r.value(&e.Args[0])
	switch e.Word {
	case "||":
		return truth(left != 0 || r.value(&e.Args[1]) != 0)
	case "&&":
		return truth(left != 0 && r.value(&e.Args[1]) != 0)
	}
	return combined(e.Word, left, r.value(&e.Args[1]))
}

// combined is what an operator with that word answers of two numbers, both of which are always wanted.
func combined(sign string, a, b int64) int64 {
	if rel, e := word.RelNamed(sign); e == api.OK {
		holds, _ := word.Holds(rel, a, b)
		return truth(holds)
	}
	n, _ := word.Apply(operator(sign), a, b)
	return n
}

func operator(sign string) word.Op {
	for op, text := range operators {
		if text == sign {
			return word.Op(op)
		}
	}
	return 0
}

func truth(is bool) int64 {
	if is {
		return 1
	}
	return 0
}
