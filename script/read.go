package script

import (
	"slices"
	"strings"

	"braid/api"
	"braid/cm"
	"braid/lang"
	"braid/machine"
	"braid/word"
)

// part is how far a script has come: which of its lines came last.
type part int

const (
	nothing part = iota
	objects
	manager
	draws
	threads
	picks
)

// shape is how a job is written: its first word, and how many keys stand behind it.
type shape struct {
	name string
	keys int
}

// A shape's place is its job's kind.
var shapes = [api.JobKinds]shape{
	api.JobProgram:  {"program", 0},
	api.JobInsert:   {"insert", 1},
	api.JobRemove:   {"remove", 1},
	api.JobContains: {"contains", 1},
	api.JobLeast:    {"least", 0},
	api.JobSize:     {"size", 0},
	api.JobMove:     {"move", 2},
}

// reader goes through the lines of a text once.
type reader struct {
	lines  []string
	line   int // the number of the line that is looked at
	come   part
	script machine.Script
}

// leave throws a fault of the present line up to Parse, from however deep in it.
func (r *reader) leave(e api.Errno) { panic(fault{r.line, e}) }

// need leaves, unless all is well.
func (r *reader) need(well bool, e api.Errno) {
	if !well {
		r.leave(e)
	}
}

// next goes on to the next line; false: the last one is the present one, and stays it.
func (r *reader) next() bool {
	if r.line == len(r.lines) {
		return false
	}
	r.line++
	return true
}

func (r *reader) text() string { return r.lines[r.line-1] }

// read is at the last line when it finds that one has not come. (Where picks have come, all others have.)
func (r *reader) read() {
	for r.next() {
		if words := cut(r.text()); len(words) > 0 {
			r.hear(words[0], words[1:]...)
		}
	}
	r.need(r.come == picks, api.ErrLine)
}

// cut answers the words of a line. Bytes that are no rune's do no harm: they are no blanks, and stay in their words.
func cut(line string) []string {
	line, _, _ = strings.Cut(line, "#")
	return strings.FieldsFunc(line, func(c rune) bool { return c == ' ' || c == '\t' })
}

func (r *reader) hear(first string, rest ...string) {
	switch first {
	case "objects":
		r.comes(objects, nothing)
		r.script.Objects = r.list(api.MaxMap, api.ErrObjects, rest...)
	case "manager":
		r.comes(manager, objects)
		r.manager(rest...)
	case "draws":
		r.comes(draws, manager)
		r.script.Draws = r.list(api.MaxDraws, api.ErrDraws, rest...)
	case "thread":
		r.comes(threads, draws, threads)
		r.thread(rest...)
	case "picks":
		r.comes(picks, threads, picks)
		r.picks(rest...)
	default:
		r.comes(threads, threads)
		r.job(first, rest...)
	}
}

// comes goes on to a part, if what came last is one behind which it may stand.
func (r *reader) comes(now part, behind ...part) {
	r.need(slices.Contains(behind, r.come), api.ErrLine)
	r.come = now
}

// list reads a line's numbers. One that is too many has to be a number, too, to be one too many.
func (r *reader) list(most int, tooMany api.Errno, words ...string) []int64 {
	var list []int64
	for _, w := range words {
		n := r.number(w)
		r.need(len(list) < most, tooMany)
		list = append(list, n)
	}
	return list
}

func (r *reader) manager(words ...string) {
	for i, w := range words {
		switch i {
		case 0:
			kind, e := cm.Named(w)
			r.need(e == api.OK, api.ErrOperand)
			r.script.Manager = kind
		case 1:
			r.script.Patience = r.upTo(api.MaxPatience, w)
		default:
			r.leave(api.ErrExtra)
		}
	}
	r.need(len(words) == 2, api.ErrMissing)
}

func (r *reader) thread(words ...string) {
	r.need(len(r.script.Threads) < api.MaxThreads, api.ErrThreads)
	r.need(len(words) == 0, api.ErrExtra)
	r.script.Threads = append(r.script.Threads, nil)
}

func (r *reader) job(name string, words ...string) {
	kind, known := kindOf(name)
	r.need(known, api.ErrLine)
	last := len(r.script.Threads) - 1
	r.need(len(r.script.Threads[last]) < api.MaxJobs, api.ErrJobs)
	keys := r.keys(shapes[kind].keys, words...)
	j := machine.Job{Kind: kind, Key: keys[0], Other: keys[1]}
	if kind == api.JobProgram {
		j.Program = r.program()
	}
	r.script.Threads[last] = append(r.script.Threads[last], j)
}

func kindOf(name string) (int, bool) {
	for kind, s := range shapes {
		if s.name == name {
			return kind, true
		}
	}
	return 0, false
}

// keys reads as many keys as a job takes; those that it does not take are 0.
func (r *reader) keys(many int, words ...string) [2]int64 {
	var keys [2]int64
	for i, w := range words {
		r.need(i < many, api.ErrExtra)
		keys[i] = r.number(w)
	}
	r.need(len(words) == many, api.ErrMissing)
	return keys
}

// program reads the lines behind the present one, to the end line.
func (r *reader) program() []lang.Instr {
	own := r.line
	var text strings.Builder
	for !r.ends() {
		text.WriteString(r.text() + "\n")
	}
	code, f := lang.Parse(text.String())
	if f.Err != api.OK {
		panic(fault{own + f.Line, f.Err})
	}
	return code
}

// ends goes on to a program's next line, and tells whether that is its end line.
func (r *reader) ends() bool {
	r.need(r.next(), api.ErrLine)
	words := cut(r.text())
	return len(words) == 1 && words[0] == "end"
}

func (r *reader) picks(words ...string) {
	for _, w := range words {
		pick, times := r.stretch(w)
		r.need(len(r.script.Picks)+times <= api.MaxPicks, api.ErrPicks)
		r.script.Picks = append(r.script.Picks, slices.Repeat([]int64{pick}, times)...)
	}
}

// stretch reads a word as a pick, and how often it stands there.
func (r *reader) stretch(w string) (int64, int) {
	pick, times, several := strings.Cut(w, "*")
	if !several {
		return r.number(w), 1
	}
	return r.number(pick), r.upTo(api.MaxPicks, times)
}

func (r *reader) number(w string) int64 {
	n, e := word.Parse(w)
	r.need(e == api.OK, api.ErrOperand)
	return n
}

// upTo reads a word as a number from 1 to most.
func (r *reader) upTo(most int64, w string) int {
	n := r.number(w)
	r.need(n >= 1 && n <= most, api.ErrOperand)
	return int(n)
}
