package lang

import (
	"strings"

	"braid/api"
	"braid/word"
)

// reader goes through a text once; what its jumps name is looked up behind the last line, as a label may be defined behind its jump.
type reader struct {
	code   []Instr
	labels map[string]int
	jumps  []jump
}

// jump is a place whose instruction still lacks its To, and the word that names it.
type jump struct {
	place int
	label piece
}

// piece is a word of the text, and where it stands.
type piece struct {
	text      string
	line, col int
}

// caught hands on the fault by which a reader left; whatever else is thrown is no text's fault.
func caught(left any) Fault {
	if fault, ok := left.(Fault); ok {
		return fault
	}
	panic(left)
}

// leave throws the fault up to Parse, from however deep in the line.
func (p piece) leave(e api.Errno) { panic(Fault{Err: e, Line: p.line, Col: p.col}) }

// need leaves, unless the piece is an operand of the kind that is wanted.
func (p piece) need(fits bool) {
	if !fits {
		p.leave(api.ErrOperand)
	}
}

// behind is where a further word is missing.
func (p piece) behind() piece { return piece{line: p.line, col: p.col + len(p.text)} }

func (r *reader) read(text string) {
lines:
	for i, line := range strings.Split(text, "\n") {
		words := cut(line, i+1)
		for at, p := range words {
			name, defines := strings.CutSuffix(p.text, ":")
			if !defines {
				r.instruction(words[at:])
				continue lines
			}
			r.define(name, p)
		}
	}
}

// cut answers the words of a line. Bytes are looked at, not runes: columns count bytes, and a text need be no UTF-8.
func cut(line string, number int) []piece {
	line, _, _ = strings.Cut(line, "#")
	var words []piece
	for at := 0; at < len(line); at++ {
		from := at
		for at < len(line) && line[at] != ' ' && line[at] != '\t' {
			at++
		}
		if at > from {
			words = append(words, piece{line[from:at], number, from + 1})
		}
	}
	return words
}

// define names the place of the instruction that comes next, wherever it comes.
func (r *reader) define(name string, p piece) {
	if !isName(name) {
		p.leave(api.ErrWord)
	}
	if _, defined := r.labels[name]; defined {
		p.leave(api.ErrTwice)
	}
	r.labels[name] = len(r.code)
}

// instruction reads the rest of a line, which begins with the instruction's own word.
func (r *reader) instruction(words []piece) {
	in := named(words[0])
	if len(r.code) == MaxCode {
		words[0].leave(api.ErrMany)
	}
	for i, s := range shapes[in.Code].slots {
		if i+1 == len(words) {
			words[i].behind().leave(api.ErrMissing)
		}
		r.fill(&in, s, words[i+1])
	}
	if taken := 1 + len(shapes[in.Code].slots); taken < len(words) {
		words[taken].leave(api.ErrExtra)
	}
	r.code = append(r.code, in)
}

// named begins the instruction that goes by a name.
func named(p piece) Instr {
	if op, e := word.OpNamed(p.text); e == api.OK {
		return Instr{Code: Calc, Op: op}
	}
	code := Get
	for code <= Done && shapes[code].name != p.text {
		code++
	}
	if code > Done {
		p.leave(api.ErrWord)
	}
	return Instr{Code: code}
}

func (r *reader) fill(in *Instr, s slot, p piece) {
	switch s {
	case slotDst:
		in.Dst = p.register()
	case slotObj:
		in.Obj = p.object()
	case slotX:
		in.X = p.source(p.text)
	case slotY:
		in.Y = p.source(p.text)
	case slotRel:
		in.Rel = p.relation()
	case slotTo:
		p.need(isName(p.text))
		r.jumps = append(r.jumps, jump{len(r.code), p})
	}
}

func (p piece) register() int {
	n, fits := register(p.text)
	p.need(fits)
	return int(n)
}

func (p piece) object() Operand {
	text, fits := strings.CutPrefix(p.text, "@")
	p.need(fits)
	return p.source(text)
}

// source reads a text of its own, as an object's source stands behind a byte that its column counts in.
func (p piece) source(text string) Operand {
	if n, ok := register(text); ok {
		return Operand{Reg: true, Num: n}
	}
	n, e := word.Parse(text)
	p.need(e == api.OK)
	return Operand{Num: n}
}

func (p piece) relation() word.Rel {
	rel, e := word.RelNamed(p.text)
	p.need(e == api.OK)
	return rel
}

// register leans on word.Parse, which refuses a leading zero here as it does in a number.
func register(text string) (int64, bool) {
	digits, ok := strings.CutPrefix(text, "r")
	n, e := word.Parse(digits)
	return n, ok && e == api.OK && isReg(n)
}

func isReg(n int64) bool { return n >= 0 && n < MaxRegs }

func isName(text string) bool {
	if text == "" || len(text) > MaxName {
		return false
	}
	for i, b := range []byte(text) {
		letter := b >= 'a' && b <= 'z'
		digit := b >= '0' && b <= '9'
		if !letter && (i == 0 || !digit) {
			return false
		}
	}
	return true
}

// join gives the jumps their places, in the order in which the text has them.
func (r *reader) join() {
	for _, j := range r.jumps {
		place, defined := r.labels[j.label.text]
		if !defined {
			j.label.leave(api.ErrLabel)
		}
		r.code[j.place].To = place
	}
}
