package source

import (
	"slices"
	"strings"

	"braid/api"
)

// fields says which fields a kind of statements uses.
type fields struct {
	word, a, b, then, other bool
}

// The place of a kind's fields is the kind.
var used = [...]fields{
	Assign:  {word: true, a: true},
	Store:   {a: true, b: true},
	Release: {a: true},
	If:      {a: true, then: true, other: true},
	While:   {a: true, then: true},
	Abort:   {},
	Return:  {a: true},
}

// size is how many levels and nodes stand in something.
type size struct {
	depth, nodes int
}

// with is the size of two things side by side.
func (s size) with(other size) size {
	return size{max(s.depth, other.depth), s.nodes + other.nodes}
}

// under is the size of a node in which that stands. Its nodes are counted to one more than may be: there may be more than an
// int holds.
func (s size) under() size { return size{s.depth + 1, min(s.nodes+1, MaxNodes+1)} }

// place is where a list lies.
type place[T any] struct {
	first *T
	count int
}

// survey is what a walk through a tree finds, in the order of the tree's text. A list that stands at many places of the
// tree is gone through once: a few lists by hand are enough for more nodes than can be counted.
type survey struct {
	wrong bool     // there is a node that cannot be
	names []string // the different ones, to one more than may be
	exprs map[place[Expr]]size
	stmts map[place[Stmt]]size
}

// names answers a program's names, or the error of what is none.
func names(prog []Stmt) ([]string, api.Errno) {
	v := survey{exprs: map[place[Expr]]size{}, stmts: map[place[Stmt]]size{}}
	whole := v.statements(prog)
	switch {
	case v.wrong:
		return nil, api.ErrTree
	case len(v.names) > MaxNames:
		return nil, api.ErrNames
	case whole.depth > MaxDepth:
		return nil, api.ErrDeep
	case whole.nodes > MaxNodes:
		return nil, api.ErrBig
	}
	return v.names, api.OK
}

func (v *survey) statements(list []Stmt) size { return sum(v.stmts, list, v.statement) }

func (v *survey) statement(s *Stmt) size {
	if !s.canBe() {
		v.wrong = true
		return size{}
	}
	var in size
	if used[s.Kind].word {
		v.name(s.Word)
	}
	if used[s.Kind].a {
		in = in.with(v.expression(&s.A))
	}
	if used[s.Kind].b {
		in = in.with(v.expression(&s.B))
	}
	return in.with(v.statements(s.Then)).with(v.statements(s.Else)).under()
}

func (v *survey) expression(e *Expr) size {
	if !e.canBe() {
		v.wrong = true
		return size{}
	}
	if e.Kind == Name {
		v.name(e.Word)
	}
	return sum(v.exprs, e.Args, v.expression).under()
}

func (v *survey) name(name string) {
	if len(v.names) <= MaxNames && !slices.Contains(v.names, name) {
		v.names = append(v.names, strings.Clone(name))
	}
}

// sum is the size of a list, of which each part has one; it is looked up, if it is known.
func sum[T any](known map[place[T]]size, list []T, of func(part *T) size) size {
	if len(list) == 0 {
		return size{}
	}
	at := place[T]{&list[0], len(list)}
	if all, is := known[at]; is {
		return all
	}
	var all size
	for i := range list {
		all = all.with(of(&list[i]))
	}
	known[at] = all
	return all
}

// canBe looks at the statement alone; what stands in it is looked at by itself.
func (s *Stmt) canBe() bool {
	if s.Kind < Assign || s.Kind > Return {
		return false
	}
	u := used[s.Kind]
	if u.word && !isName(s.Word) || !u.word && s.Word != "" {
		return false
	}
	return (u.a || s.A.isZero()) && (u.b || s.B.isZero()) && (u.then || len(s.Then) == 0) && (u.other || len(s.Else) == 0)
}

// canBe looks at the expression alone; what stands in it is looked at by itself.
func (e *Expr) canBe() bool {
	switch e.Kind {
	case Number:
		return e.Num >= 0 && e.Word == "" && len(e.Args) == 0
	case Name:
		return e.Num == 0 && isName(e.Word) && len(e.Args) == 0
	case Object, Taken, Minus, Not:
		return e.Num == 0 && e.Word == "" && len(e.Args) == 1
	case Binary:
		return e.Num == 0 && bindingOf(e.Word).strength > 0 && len(e.Args) == 2
	}
	return false
}

func (e *Expr) isZero() bool {
	return e.Kind == 0 && e.Num == 0 && e.Word == "" && len(e.Args) == 0
}
