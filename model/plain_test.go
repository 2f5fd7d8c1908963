package model_test

import (
	"math/big"
	"strconv"
	"strings"

	"braid/api"
	"braid/lang"
)

// What follows says the chapter once more, as plainly as can be: the program is its printed text, gone through word by
// word; of the objects nothing is kept but what happened to them, and what is own or held is looked up in that.

// happening is one thing that befell an object: "read", "drop", "open" (for writing) or "put".
type happening struct {
	what   string
	object int64
	number int64
}

type plainRun struct {
	over  objects
	given given
	regs  map[string]int64
	past  []happening
}

// last is the last of these things that befell an object.
func (p *plainRun) last(object int64, what string) (happening, bool) {
	for k := len(p.past) - 1; k >= 0; k-- {
		if h := p.past[k]; h.object == object && strings.Contains(what, h.what) {
			return h, true
		}
	}
	return happening{}, false
}

func (p *plainRun) happens(what string, object, number int64) int64 {
	p.past = append(p.past, happening{what, object, number})
	return number
}

func (p *plainRun) get(object int64) int64 {
	if h, own := p.last(object, "open put"); own {
		return h.number
	}
	if h, was := p.last(object, "read drop"); was && h.what == "read" {
		return h.number
	}
	k := 0
	for _, h := range p.past {
		if h.what == "read" {
			k++
		}
	}
	if k < len(p.given) && p.given[k].Use {
		return p.happens("read", object, p.given[k].Value)
	}
	return p.happens("read", object, p.over[object])
}

func (p *plainRun) take(object int64) int64 {
	if h, own := p.last(object, "open put"); own {
		return h.number
	}
	return p.happens("open", object, p.over[object])
}

func (p *plainRun) source(text string) int64 {
	if strings.HasPrefix(text, "r") {
		return p.regs[text]
	}
	n, _ := strconv.ParseInt(text, 10, 64)
	return n
}

// plainText is a program's printed text: its lines as words, with the end's as the last one, and the labels' places.
func plainText(code []lang.Instr) (lines [][]string, places map[string]int) {
	printed, _ := lang.Print(code)
	places = map[string]int{}
	for line := range strings.Lines(printed) {
		words := strings.Fields(line)
		if label, is := strings.CutSuffix(words[0], ":"); is {
			places[label] = len(lines)
		} else {
			lines = append(lines, words)
		}
	}
	return append(lines, []string{"done", "0"}), places
}

// plainAlone is Run of a program that is not refused; and what happened in it.
func plainAlone(code []lang.Instr, over objects, g given, fuel int) (api.Alone, []happening) {
	lines, places := plainText(code)
	p := plainRun{over: over, given: g, regs: map[string]int64{}}
	place := 0
	for count := 1; count <= fuel; count++ {
		words := lines[place]
		place++
		outcome, result, label := p.line(words)
		if outcome != api.EndNone {
			return alone(outcome, result, p.left(outcome), count), p.past
		}
		if label != "" {
			place = places[label]
		}
	}
	return alone(api.EndNone, 0, p.left(api.EndNone), fuel), p.past
}

// line does what a line says, and tells the outcome with its result, or the label that is jumped to.
func (p *plainRun) line(words []string) (outcome int, result int64, label string) {
	for _, w := range words {
		if text, is := strings.CutPrefix(w, "@"); is {
			if x := p.source(text); x < 0 || x >= int64(len(p.over)) {
				return api.EndBad, 0, ""
			}
		}
	}
	object := func(k int) int64 { return p.source(words[k][1:]) }
	switch words[0] {
	case "get":
		p.regs[words[1]] = p.get(object(2))
	case "take":
		p.regs[words[1]] = p.take(object(2))
	case "put":
		p.take(object(1))
		p.happens("put", object(1), p.source(words[2]))
	case "drop":
		p.happens("drop", object(1), 0)
	case "let":
		p.regs[words[1]] = p.source(words[2])
	case "if":
		if plainHolds(words[2], p.source(words[1]), p.source(words[3])) {
			return api.EndNone, 0, words[4]
		}
	case "goto":
		return api.EndNone, 0, words[1]
	case "quit":
		return api.EndUser, 0, ""
	case "done":
		return api.EndCommit, p.source(words[1]), ""
	default:
		p.regs[words[1]] = plainApply(words[0], p.source(words[2]), p.source(words[3]))
	}
	return api.EndNone, 0, ""
}

func (p *plainRun) left(outcome int) objects {
	left := append(objects{}, p.over...)
	for x := range left {
		if h, own := p.last(int64(x), "open put"); own && outcome == api.EndCommit {
			left[x] = h.number
		}
	}
	return left
}

// plainApply is chapter 1's table, in whole numbers without bound, of which 64 bits are kept.
func plainApply(name string, a, b int64) int64 {
	x, y, z := big.NewInt(a), big.NewInt(b), new(big.Int)
	switch name {
	case "add":
		z.Add(x, y)
	case "sub":
		z.Sub(x, y)
	case "mul":
		z.Mul(x, y)
	case "div":
		if b != 0 {
			z.Quo(x, y)
		}
	case "rem":
		z.Set(x)
		if b != 0 {
			z.Rem(x, y)
		}
	case "and":
		z.And(x, y)
	case "or":
		z.Or(x, y)
	case "xor":
		z.Xor(x, y)
	case "shl":
		z.Lsh(x, uint(new(big.Int).And(y, big.NewInt(63)).Uint64()))
	case "shr":
		z.Rsh(x, uint(new(big.Int).And(y, big.NewInt(63)).Uint64()))
	case "min", "max":
		z.Set(x)
		if (x.Cmp(y) > 0) == (name == "min") {
			z.Set(y)
		}
	}
	whole := new(big.Int).Lsh(big.NewInt(1), 64)
	return int64(z.Mod(z, whole).Uint64())
}

func plainHolds(name string, a, b int64) bool {
	order := big.NewInt(a).Cmp(big.NewInt(b))
	switch {
	case order < 0:
		return name == "<" || name == "<=" || name == "!="
	case order > 0:
		return name == ">" || name == ">=" || name == "!="
	}
	return name == "==" || name == "<=" || name == ">="
}
