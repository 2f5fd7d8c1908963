package source

// How strongly what an expression is made of holds together: of two operators beside one operand the stronger one has it.
const (
	loosest = 1 // of the operators that stand between their operands; the tightest of them have 5
	single  = 6 // of Minus and Not
	closed  = 7 // of what nothing beside it can take apart
	none    = 8 // nothing is as strong
)

// binding is an operator of Binary, and how strong its left operand has to be without brackets. Its right one has to be
// stronger than itself.
type binding struct {
	word           string
	strength, left int
}

// A comparison is no operand of another one, and no operand stands to the left of min and max.
var bindings = [...]binding{
	{"||", loosest, loosest},
	{"&&", 2, 2},
	{"==", 3, 4}, {"!=", 3, 4}, {"<", 3, 4}, {"<=", 3, 4}, {">", 3, 4}, {">=", 3, 4},
	{"+", 4, 4}, {"-", 4, 4}, {"|", 4, 4}, {"^", 4, 4},
	{"*", 5, 5}, {"/", 5, 5}, {"%", 5, 5}, {"&", 5, 5}, {"<<", 5, 5}, {">>", 5, 5},
	{"min", closed, none}, {"max", closed, none},
}

// bindingOf answers an operator's binding; a word that is none has the strength 0.
func bindingOf(word string) binding {
	for _, b := range bindings {
		if b.word == word {
			return b
		}
	}
	return binding{}
}

func (e *Expr) strength() int {
	switch e.Kind {
	case Minus, Not:
		return single
	case Binary:
		return bindingOf(e.Word).strength
	}
	return closed
}
