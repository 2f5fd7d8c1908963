package model_test

import (
	"strconv"
	"strings"

	"braid/api"
	"braid/fixture"
	"braid/lang"
)

// What follows says the chapter once more, as plainly as can be: the program is its printed text, gone through word by
// word; of the objects nothing is kept but what happened to them.

type plainRun struct {
	fixture.Past
	regs map[string]int64
}

func (p *plainRun) source(text string) int64 {
	if strings.HasPrefix(text, "r") {
		return p.regs[text]
	}
	n, _ := strconv.ParseInt(text, 10, 64)
	return n
}

// plainText is a program's printed text: its lines as words, with the end's as the last one, and the labels' places.
func plainText(code []lang.Instr) (lines [][]string, places map[string]int) {
	printed, _ := lang.Print(code)
	places = map[string]int{}
	for line := range strings.Lines(printed) {
		words := strings.Fields(line)
		if label, is := strings.CutSuffix(words[0], ":"); is {
			places[label] = len(lines)
		} else {
			lines = append(lines, words)
		}
	}
	return append(lines, []string{"done", "0"}), places
}

// plainAlone is Run of a program that is not refused; and what happened in it.
func plainAlone(code []lang.Instr, over objects, g given, fuel int) (api.Alone, []fixture.Happening) {
	lines, places := plainText(code)
	p := plainRun{fixture.Past{Over: over, Given: g}, map[string]int64{}}
	place := 0
	for count := 1; count <= fuel; count++ {
		words := lines[place]
		place++
		outcome, result, label := p.line(words)
		if outcome != api.EndNone {
			return alone(outcome, result, p.Left(outcome), count), p.All
		}
		if label != "" {
			place = places[label]
		}
	}
	return alone(api.EndNone, 0, p.Left(api.EndNone), fuel), p.All
}

// line does what a line says, and tells the outcome with its result, or the label that is jumped to.
func (p *plainRun) line(words []string) (outcome int, result int64, label string) {
	for _, w := range words {
		if text, is := strings.CutPrefix(w, "@"); is {
			if !p.Is(p.source(text)) {
				return api.EndBad, 0, ""
			}
		}
	}
	object := func(k int) int64 { return p.source(words[k][1:]) }
	switch words[0] {
	case "get":
		p.regs[words[1]] = p.Get(object(2))
	case "take":
		p.regs[words[1]] = p.Take(object(2))
	case "put":
		p.Put(object(1), p.source(words[2]))
	case "drop":
		p.Drop(object(1))
	case "let":
		p.regs[words[1]] = p.source(words[2])
	case "if":
		if fixture.Related(words[2], p.source(words[1]), p.source(words[3])) {
			return api.EndNone, 0, words[4]
		}
	case "goto":
		return api.EndNone, 0, words[1]
	case "quit":
		return api.EndUser, 0, ""
	case "done":
		return api.EndCommit, p.source(words[1]), ""
	default:
		p.regs[words[1]] = fixture.Applied(words[0], p.source(words[2]), p.source(words[3]))
	}
	return api.EndNone, 0, ""
}
