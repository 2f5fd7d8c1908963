package interp_test

import (
	"slices"
	"strings"

	"braid/api"
	"braid/lang"
	"braid/retry"
	"braid/word"
)

// plain is a job as the chapter tells it. Of a run nothing is kept but its rows: where the present attempt stands is
// found by going through the program's printed text from above, with what the rows of this attempt alone tell.
type plain struct {
	x       *retry.Transaction
	lines   [][]string // the program's words; the last line is the end's
	places  map[string]int
	objects int
	rows    []api.Row
}

func newPlain(x *retry.Transaction, code []lang.Instr, objects int) *plain {
	p := &plain{x: x, places: map[string]int{}, objects: objects}
	printed, _ := lang.Print(code)
	for line := range strings.Lines(printed) {
		words := strings.Fields(line)
		if label, is := strings.CutSuffix(words[0], ":"); is {
			p.places[label] = len(p.lines)
		} else {
			p.lines = append(p.lines, words)
		}
	}
	p.lines = append(p.lines, []string{"done", "0"})
	return p
}

type registers map[string]int64

func (r registers) source(text string) int64 {
	if strings.HasPrefix(text, "r") {
		return r[text]
	}
	n, _ := word.Parse(text)
	return n
}

// attempt is the rows of the one that stands or stood last, behind its begin.
func (p *plain) attempt() []api.Row {
	for k, r := range slices.Backward(p.rows) {
		if r.Kind == api.RowBegin || r.Kind == api.RowAgain {
			return p.rows[k+1:]
		}
	}
	return nil
}

// now tells the registers and the place.
func (p *plain) now() (registers, int) {
	regs, place := registers{}, 0
	for _, r := range p.attempt() {
		words := p.lines[place]
		switch {
		case r.Told:
			if words[0] != "put" {
				regs[words[1]] = r.Value.Num
			}
			place++
		case r.Kind == api.RowRelease:
			place++
		case r.Kind == api.RowLocal:
			place = p.local(regs, words, place)
		}
	}
	return regs, place
}

// local does a line that names no object, and tells the place behind it.
func (p *plain) local(regs registers, words []string, place int) int {
	switch words[0] {
	case "goto":
		return p.places[words[1]]
	case "if":
		rel, _ := word.RelNamed(words[2])
		if holds, _ := word.Holds(rel, regs.source(words[1]), regs.source(words[3])); holds {
			return p.places[words[4]]
		}
	case "let":
		regs[words[1]] = regs.source(words[2])
	default:
		op, _ := word.OpNamed(words[0])
		regs[words[1]], _ = word.Apply(op, regs.source(words[2]), regs.source(words[3]))
	}
	return place + 1
}

func (p *plain) Place() int {
	_, place := p.now()
	return place
}

func (p *plain) Over() bool {
	return len(p.rows) > 0 && p.rows[len(p.rows)-1].Kind == api.RowReturn
}

func (p *plain) Answer() api.Answer {
	var a api.Answer
	if !p.Over() {
		return a
	}
	for _, r := range p.rows {
		if r.Kind == api.RowBegin || r.Kind == api.RowAgain {
			a.Tries++
		}
		if r.End != api.EndNone {
			a.Outcome = r.End
		}
	}
	if a.Outcome == api.EndCommit {
		regs, place := p.now()
		a.Result = regs.source(p.lines[place][1])
	}
	return a
}

// object tells which object a line names, -1: a bad one.
func (p *plain) object(regs registers, words []string) int {
	for _, w := range words {
		if text, is := strings.CutPrefix(w, "@"); is {
			for x := range p.objects {
				if int64(x) == regs.source(text) {
					return x
				}
			}
		}
	}
	return -1
}

func (p *plain) Step() (api.Row, api.Errno) {
	if p.Over() {
		return api.Row{}, api.ErrEnded
	}
	regs, place := p.now()
	row, e := p.does(regs, p.lines[place])
	if e == api.OK {
		p.rows = append(p.rows, row)
	}
	return row, e
}

func (p *plain) does(regs registers, words []string) (api.Row, api.Errno) {
	row := api.Row{Thread: p.x.Thread(), Job: p.x.Job(), Try: p.x.Tries(), Attempt: p.x.Number(), Object: -1, Entry: -1, Enemy: -1, Cell: -1}
	x := p.object(regs, words)
	if p.x.State() == api.StateOver {
		row.Kind = api.RowReturn
		return row, api.OK
	}
	if p.x.State() == api.StateOpen {
		switch {
		case words[0] == "done":
			p.x.Finish()
		case words[0] == "quit":
			p.x.Quit(api.EndUser)
		case !strings.Contains(words[len(words)-1]+words[1], "@"):
			row.Kind = api.RowLocal
			return row, api.OK
		case x < 0:
			p.x.Quit(api.EndBad)
		case words[0] == "drop":
			row.Kind, row.Object = api.RowRelease, x
			row.Entry, _ = p.x.Release(x)
			return row, api.OK
		case words[0] == "get":
			p.x.Read(x)
		default:
			p.x.Write(x)
		}
	}
	row, e := p.x.Step()
	if row.Told && words[0] == "put" {
		row.Puts, row.Put.Num = true, regs.source(words[2])
		p.x.Put(x, row.Put)
	}
	return row, e
}
