package source

import (
	"strings"

	"braid/word"
)

// lines are the lines of statements, with these tabs ahead of each.
func lines(list []Stmt, tabs string) string {
	var text strings.Builder
	for i := range list {
		text.WriteString(tabs + list[i].text(tabs) + "\n")
	}
	return text.String()
}

// text has no tabs ahead of its first line, as an If may stand behind an else, and no newline behind its last one.
func (s *Stmt) text(tabs string) string {
	switch s.Kind {
	case Assign:
		return s.Word + " := " + s.A.text() + ";"
	case Store:
		return "[" + s.A.text() + "] := " + s.B.text() + ";"
	case Release:
		return "release [" + s.A.text() + "];"
	case If:
		return "if " + s.A.text() + " " + block(s.Then, tabs) + otherwise(s.Else, tabs)
	case While:
		return "while " + s.A.text() + " " + block(s.Then, tabs)
	case Abort:
		return "abort;"
	}
	return "return " + s.A.text() + ";"
}

func block(list []Stmt, tabs string) string { return "{\n" + lines(list, tabs+"\t") + tabs + "}" }

func otherwise(list []Stmt, tabs string) string {
	if len(list) == 0 {
		return ""
	}
	if len(list) == 1 && list[0].Kind == If {
		return " else " + list[0].text(tabs)
	}
	return " else " + block(list, tabs)
}

func (e *Expr) text() string {
	switch e.Kind {
	case Number:
		return word.Format(e.Num)
	case Name:
		return e.Word
	case Object:
		return "[" + e.Args[0].text() + "]"
	case Taken:
		return "take [" + e.Args[0].text() + "]"
	case Minus:
		return "-" + e.Args[0].operand(single)
	case Not:
		return "!" + e.Args[0].operand(single)
	}
	return e.binary()
}

func (e *Expr) binary() string {
	b := bindingOf(e.Word)
	if b.left == none {
		return e.Word + "(" + e.Args[0].text() + ", " + e.Args[1].text() + ")"
	}
	return e.Args[0].operand(b.left) + " " + e.Word + " " + e.Args[1].operand(b.strength+1)
}

// operand stands in brackets, if it is weaker than it has to be without them.
func (e *Expr) operand(least int) string {
	if e.strength() < least {
		return "(" + e.text() + ")"
	}
	return e.text()
}
