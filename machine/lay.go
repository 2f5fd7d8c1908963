package machine

import (
	"braid/api"
	"braid/cell"
	"braid/cm"
	"braid/interp"
	"braid/intset"
	"braid/locator"
	"braid/retry"
	"braid/txn"
	"braid/word"
)

// underWay is a job under way, of the one kind (a program) or the other (a call of the set).
type underWay interface {
	Step() (api.Row, api.Errno)
	Over() bool
	Answer() api.Answer
}

// First tells the values with which a script's objects begin (14.2).
func First(s Script) ([]api.Value, api.Errno) {
	if e := Check(s); e != api.OK {
		return nil, e
	}
	var values []api.Value
	for _, n := range s.Objects {
		values = append(values, api.Value{Num: n})
	}
	for range 1 + calls(s.Threads) { // the head, and each call's node
		values = append(values, intset.Empty())
	}
	return values, api.OK
}

// calls counts the calls of the set.
func calls(threads [][]Job) int {
	n := 0
	for _, jobs := range threads {
		for _, j := range jobs {
			if j.Kind != api.JobProgram {
				n++
			}
		}
	}
	return n
}

// lay makes what all jobs of a run share, and the cell of its clock, ahead of all others. Check has let the script pass,
// so no layer below refuses a part of it.
func lay(s Script, values []api.Value) (txn.Scene, int) {
	memory := cell.New()
	clock, _ := memory.Make(0)
	world, _ := locator.New(memory, values)
	manager, _ := cm.New(s.Manager, s.Patience)
	return txn.Scene{Memory: memory, World: world, Manager: manager, Draws: word.NewDraws(s.Draws)}, clock
}

// enter makes the jobs of all threads. A transaction is nothing that others could see until its first step, so those
// that have long to wait for their turn may stand there from the beginning.
func enter(s Script, scene txn.Scene, clock int) []thread {
	threads := make([]thread, len(s.Threads))
	head := len(s.Objects)
	node := head
	for p, jobs := range s.Threads {
		for n, j := range jobs {
			if j.Kind != api.JobProgram {
				node++
			}
			t, _ := retry.New(scene, clock, p, n)
			threads[p].jobs = append(threads[p].jobs, j.begin(t, head, node))
		}
	}
	return threads
}

// begin makes a job over its transaction. The shared numbers stand ahead of the head: a program may name those.
func (j Job) begin(t *retry.Transaction, head, node int) underWay {
	if j.Kind == api.JobProgram {
		program, _ := interp.New(t, j.Program, head)
		return program
	}
	call, _ := intset.New(t, j.Kind, j.Key, j.Other, head, node)
	return call
}
