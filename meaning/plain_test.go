package meaning_test

import (
	"slices"
	"strings"

	"braid/api"
	"braid/fixture"
	"braid/source"
)

// What follows says the chapter once more, as plainly as can be, without a call that calls itself: what is still to be done
// lies on a pile, what was worked out on another; of the objects nothing is kept but what happened to them.

// task is one thing to be done: a statement or an expression to be begun, or, by its word, what comes behind its parts.
type task struct {
	what string
	stmt source.Stmt
	expr source.Expr
}

type plainRun struct {
	fixture.Past
	vars    map[string]int64
	todo    []task
	numbers []int64
	counted []string // what was counted, in order
}

func (p *plainRun) pop() int64 {
	n := p.numbers[len(p.numbers)-1]
	p.numbers = p.numbers[:len(p.numbers)-1]
	return n
}

func (p *plainRun) push(n int64) { p.numbers = append(p.numbers, n) }

// does lays tasks on the pile, so that the first is done next.
func (p *plainRun) does(list ...task) {
	slices.Reverse(list)
	p.todo = append(p.todo, list...)
}

func (p *plainRun) block(list []source.Stmt) {
	var tasks []task
	for _, s := range list {
		tasks = append(tasks, task{what: "begin", stmt: s})
	}
	p.does(tasks...)
}

func evaluate(e source.Expr) task { return task{what: "evaluate", expr: e} }

// plainRunOf is Run of a program that is not refused, with all that is left of it.
func plainRunOf(list prog, over objects, g given, fuel int) (api.Alone, *plainRun) {
	p := &plainRun{Past: fixture.Past{Over: over, Given: g}, vars: map[string]int64{}}
	p.block(list)
	for len(p.todo) > 0 {
		next := p.todo[len(p.todo)-1]
		if next.what == "begin" || next.what == "evaluate" {
			if len(p.counted) == fuel {
				return alone(api.EndNone, 0, fuel, over...), p
			}
			p.counted = append(p.counted, next.what)
		}
		p.todo = p.todo[:len(p.todo)-1]
		if outcome, result := p.work(next); outcome != api.EndNone {
			return alone(outcome, result, len(p.counted), p.Left(outcome)...), p
		}
	}
	return alone(api.EndCommit, 0, len(p.counted), p.Left(api.EndCommit)...), p
}

// work does one thing and tells how the run has ended, if it has.
func (p *plainRun) work(next task) (outcome int, result int64) {
	switch next.what {
	case "begin":
		p.begin(next.stmt)
		if next.stmt.Kind == source.Abort {
			return api.EndUser, 0
		}
	case "evaluate":
		p.evaluate(next.expr)
	case "branch":
		p.branch(next.stmt, p.pop())
	case "assign":
		p.vars[next.stmt.Word] = p.pop()
	case "return":
		return api.EndCommit, p.pop()
	case "read", "take", "release", "store":
		return p.object(next.what), 0
	case "second":
		p.second(next.expr)
	case "truth":
		p.push(yes(p.pop() != 0))
	case "not":
		p.push(yes(p.pop() == 0))
	case "minus":
		p.push(fixture.Applied("sub", 0, p.pop()))
	default:
		b := p.pop()
		p.push(meant(next.what, p.pop(), b))
	}
	return api.EndNone, 0
}

func (p *plainRun) begin(s source.Stmt) {
	behind := [...]string{source.Assign: "assign", source.Store: "store", source.Release: "release", source.If: "branch", source.While: "branch", source.Abort: "", source.Return: "return"}[s.Kind]
	switch s.Kind {
	case source.Abort:
	case source.Store:
		p.does(evaluate(s.A), evaluate(s.B), task{what: behind})
	default:
		p.does(evaluate(s.A), task{what: behind, stmt: s})
	}
}

func (p *plainRun) branch(s source.Stmt, test int64) {
	switch {
	case test == 0:
		p.block(s.Else)
	case s.Kind == source.While:
		p.block(append(slices.Clone(s.Then), s))
	default:
		p.block(s.Then)
	}
}

func (p *plainRun) evaluate(e source.Expr) {
	switch e.Kind {
	case source.Number:
		p.push(e.Num)
	case source.Name:
		p.push(p.vars[e.Word])
	case source.Binary:
		if slices.Contains(strings.Fields(lazySigns), e.Word) {
			p.does(evaluate(e.Args[0]), task{what: "second", expr: e})
		} else {
			p.does(evaluate(e.Args[0]), evaluate(e.Args[1]), task{what: e.Word})
		}
	default:
		behind := map[int]string{source.Object: "read", source.Taken: "take", source.Minus: "minus", source.Not: "not"}[e.Kind]
		p.does(evaluate(e.Args[0]), task{what: behind})
	}
}

// second begins the right operand, unless the left one says enough.
func (p *plainRun) second(e source.Expr) {
	if left := p.pop(); (left != 0) == (e.Word == "||") {
		p.push(yes(left != 0))
		return
	}
	p.does(evaluate(e.Args[1]), task{what: "truth"})
}

// object opens or releases one.
func (p *plainRun) object(what string) int {
	put := int64(0)
	if what == "store" {
		put = p.pop()
	}
	x := p.pop()
	if !p.Is(x) {
		return api.EndBad
	}
	switch what {
	case "read":
		p.push(p.Get(x))
	case "take":
		p.push(p.Take(x))
	case "release":
		p.Drop(x)
	case "store":
		p.Put(x, put)
	}
	return api.EndNone
}

// plainEval is Eval of what is not refused.
func plainEval(e source.Expr, names []string, values []int64) int64 {
	p := &plainRun{vars: map[string]int64{}}
	for k, n := range values {
		p.vars[names[k]] = n
	}
	p.does(evaluate(e))
	for len(p.todo) > 0 {
		next := p.todo[len(p.todo)-1]
		p.todo = p.todo[:len(p.todo)-1]
		p.work(next)
	}
	return p.pop()
}
