package meaning

import (
	"braid/api"
	"braid/source"
)

// end is how a run ended. What ends a run ahead of its program's end throws one up to Run, from however deep in blocks and
// expressions.
type end struct {
	outcome int
	result  int64
}

// caught hands on the end by which a run left; whatever else is thrown is none.
func caught(left any) end {
	if over, ok := left.(end); ok {
		return over
	}
	panic(left)
}

// run is a run alone, as far as it has come (P24.1). An object that is own is not held.
type run struct {
	objects []int64
	given   []api.Given
	fuel    int
	count   int
	vars    map[string]int64
	own     map[int64]int64
	held    map[int64]int64
	reads   int
}

func newRun(objects []int64, given []api.Given, fuel int) *run {
	return &run{objects: objects, given: given, fuel: fuel, vars: map[string]int64{}, own: map[int64]int64{}, held: map[int64]int64{}}
}

// tick counts 1, or ends the run for want of fuel (P24.2).
func (r *run) tick() {
	if r.count == r.fuel {
		panic(end{outcome: api.EndNone})
	}
	r.count++
}

func (r *run) statements(list []source.Stmt) {
	for i := range list {
		r.statement(&list[i])
	}
}

// statement does one statement (P24.3).
func (r *run) statement(s *source.Stmt) {
	if s.Kind == source.While {
		r.loop(s)
		return
	}
	r.tick()
	switch s.Kind {
	case source.Assign:
		r.vars[s.Word] = r.value(&s.A)
	case source.Store:
		x := r.value(&s.A)
		r.put(x, r.value(&s.B))
	case source.Release:
		delete(r.held, r.object(r.value(&s.A)))
	case source.If:
		if r.value(&s.A) != 0 {
			r.statements(s.Then)
		} else {
			r.statements(s.Else)
		}
	case source.Abort:
		panic(end{outcome: api.EndUser})
	case source.Return:
		panic(end{outcome: api.EndCommit, result: r.value(&s.A)})
	}
}

// loop counts its tests, and nothing of its own besides.
func (r *run) loop(s *source.Stmt) {
	for r.tick(); r.value(&s.A) != 0; r.tick() {
		r.statements(s.Then)
	}
}

// object answers the number of an object; that of none ends the run (P24.5).
func (r *run) object(x int64) int64 {
	if x < 0 || x >= int64(len(r.objects)) {
		panic(end{outcome: api.EndBad})
	}
	return x
}

// read opens an object for reading.
func (r *run) read(x int64) int64 {
	r.object(x)
	if n, is := r.own[x]; is {
		return n
	}
	if n, is := r.held[x]; is {
		return n
	}
	n := r.objects[x]
	if r.reads < len(r.given) && r.given[r.reads].Use {
		n = r.given[r.reads].Value
	}
	r.reads++
	r.held[x] = n
	return n
}

// write opens an object for writing.
func (r *run) write(x int64) int64 {
	r.object(x)
	if n, is := r.own[x]; is {
		return n
	}
	delete(r.held, x)
	r.own[x] = r.objects[x]
	return r.own[x]
}

func (r *run) put(x, n int64) {
	r.write(x)
	r.own[x] = n
}

// answer tells the run with how it ended, in new memory (P24.6).
func (r *run) answer(over end) api.Alone {
	left := append([]int64{}, r.objects...)
	if over.outcome == api.EndCommit {
		for x, n := range r.own {
			left[x] = n
		}
	}
	return api.Alone{Outcome: over.outcome, Result: over.result, Objects: left, Count: r.count}
}
