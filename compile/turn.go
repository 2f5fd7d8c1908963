package compile

import "braid/word"

// turned is what becomes of an operator: the Op of an instruction, or the relations of a jump where the operator holds and
// of one where it does not. What stands for neither (&& and ||) is zero.
type turned struct {
	sign  string
	op    word.Op
	holds word.Rel
	fails word.Rel
}

var turns = [...]turned{
	{sign: "+", op: word.Add},
	{sign: "-", op: word.Sub},
	{sign: "*", op: word.Mul},
	{sign: "/", op: word.Div},
	{sign: "%", op: word.Rem},
	{sign: "&", op: word.And},
	{sign: "|", op: word.Or},
	{sign: "^", op: word.Xor},
	{sign: "<<", op: word.Shl},
	{sign: ">>", op: word.Shr},
	{sign: "min", op: word.Min},
	{sign: "max", op: word.Max},
	{sign: "==", holds: word.Eq, fails: word.Ne},
	{sign: "!=", holds: word.Ne, fails: word.Eq},
	{sign: "<", holds: word.Lt, fails: word.Ge},
	{sign: "<=", holds: word.Le, fails: word.Gt},
	{sign: ">", holds: word.Gt, fails: word.Le},
	{sign: ">=", holds: word.Ge, fails: word.Lt},
}

func turn(sign string) turned {
	for _, t := range turns {
		if t.sign == sign {
			return t
		}
	}
	return turned{}
}

// rel is the relation of a jump where the operator holds, or of one where it does not.
func (t turned) rel(when bool) word.Rel {
	if when {
		return t.holds
	}
	return t.fails
}
