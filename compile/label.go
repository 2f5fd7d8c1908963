package compile

import "braid/lang"

// label is a place that is not known yet, with the jumps that wait for it.
type label struct {
	in      *compiler
	waiting []int
}

// from lays a jump to it down, with its target open.
func (l *label) from(jump lang.Instr) {
	l.waiting = append(l.waiting, len(l.in.code))
	l.in.lay(jump)
}

// here is to be called where the place is known: it is that of the next instruction, or the program's end.
func (l *label) here() {
	for _, place := range l.waiting {
		l.in.code[place].To = len(l.in.code)
	}
}
