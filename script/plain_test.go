package script_test

import (
	"fmt"
	"math/big"
	"regexp"
	"strings"
	"testing"

	"braid/api"
	"braid/judge"
	"braid/lang"
	"braid/linear"
	"braid/machine"
)

// What a text says, and what rows and runs are as texts, once more and in another way: by patterns, with nothing of the
// package.

const aNumber = `(0|-?[1-9][0-9]*)`

var (
	wordPattern   = regexp.MustCompile(`[^ \t]+`)
	commentWord   = regexp.MustCompile(`#(?s:.*)`)
	digits        = regexp.MustCompile(`-?[0-9]+`)
	numberPattern = regexp.MustCompile(`^` + aNumber + `$`)
	stretchWord   = regexp.MustCompile(`^` + aNumber + `(?:\*([1-9][0-9]*))?$`)
)

// plainNumber is the number of a text, if it is one from low to high.
func plainNumber(text string, low, high *big.Int) (int64, bool) {
	if !numberPattern.MatchString(text) {
		return 0, false
	}
	n, _ := new(big.Int).SetString(text, 10)
	return n.Int64(), n.Cmp(low) >= 0 && n.Cmp(high) <= 0
}

var (
	lowest  = new(big.Int).Neg(new(big.Int).Lsh(big.NewInt(1), 63))
	highest = new(big.Int).Sub(new(big.Int).Lsh(big.NewInt(1), 63), big.NewInt(1))
)

func anyNumber(text string) (int64, bool) { return plainNumber(text, lowest, highest) }

func upTo(text string, most int64) (int64, bool) {
	return plainNumber(text, big.NewInt(1), big.NewInt(most))
}

// plainReader reads a text line by line, and keeps the first fault; come is the words with which lines began so far.
type plainReader struct {
	lines  []string
	line   int
	come   string
	script machine.Script
	at     int
	why    api.Errno
}

// plainParse reads a text.
func plainParse(text string) (machine.Script, int, api.Errno) {
	if len(text) > 1<<16 {
		return machine.Script{}, 0, api.ErrLong
	}
	p := &plainReader{lines: strings.Split(text, "\n")}
	for p.line < len(p.lines) && p.why == api.OK {
		words := p.words()
		p.line++
		if len(words) > 0 {
			p.say(words)
		}
	}
	if p.why == api.OK && !strings.HasSuffix(p.come, " picks") {
		p.fails(len(p.lines), api.ErrLine)
	}
	if p.why != api.OK {
		return machine.Script{}, p.at, p.why
	}
	return p.script, 0, api.OK
}

// words are those of the next line.
func (p *plainReader) words() []string {
	line := commentWord.ReplaceAllString(p.lines[p.line], "")
	return wordPattern.FindAllString(line, -1)
}

func (p *plainReader) fails(line int, why api.Errno) { p.at, p.why = line, why }

// orders are what may have come ahead of a line, by its first word.
var orders = map[string]string{
	"objects": `^$`, "manager": `^ objects$`, "draws": `^ objects manager$`, "thread": `^ objects manager draws( thread( job)*)*$`,
	"job": `^ objects manager draws( thread( job)*)+$`, "picks": `^ objects manager draws( thread( job)*)+( picks)*$`,
}

// takes are how many words of which kind stand behind a first word: n any number, m a manager, p a patience; * no bound.
var takes = map[string]string{
	"objects": "*", "manager": "mp", "draws": "*", "thread": "", "program": "", "insert": "n", "remove": "n", "contains": "n", "least": "", "size": "",
	"move": "nn", "picks": "*",
}

var jobKinds = map[string]int{"program": 0, "insert": 1, "remove": 2, "contains": 3, "least": 4, "size": 5, "move": 6}

func (p *plainReader) say(words []string) {
	first, kind := words[0], words[0]
	if _, is := jobKinds[first]; is {
		kind = "job"
	}
	order, known := orders[kind]
	if !known || first == "job" || !regexp.MustCompile(order).MatchString(p.come) {
		p.fails(p.line, api.ErrLine)
		return
	}
	switch behind := p.come[strings.LastIndex(p.come, "thread")+1:]; {
	case kind == "thread" && strings.Count(p.come, "thread") == 6:
		p.fails(p.line, api.ErrThreads)
	case kind == "job" && strings.Count(behind, "job") == 8:
		p.fails(p.line, api.ErrJobs)
	case takes[first] == "*":
		p.list(first, words[1:])
	default:
		p.few(first, words[1:])
	}
	p.come += " " + kind
}

// list reads a line of any number of numbers.
func (p *plainReader) list(first string, words []string) {
	for _, w := range words {
		parts := []string{w, w, ""}
		if first == "picks" {
			parts = stretchWord.FindStringSubmatch(w)
		}
		if parts == nil {
			p.fails(p.line, api.ErrOperand)
			return
		}
		n, is := anyNumber(parts[1])
		times, may := int64(1), true
		if parts[2] != "" {
			times, may = upTo(parts[2], 4096)
		}
		list, most, why := &p.script.Objects, 16, api.ErrObjects
		if first == "draws" {
			list, most, why = &p.script.Draws, 1024, api.ErrDraws
		}
		if first == "picks" {
			list, most, why = &p.script.Picks, 4096, api.ErrPicks
		}
		if !is || !may {
			p.fails(p.line, api.ErrOperand)
			return
		}
		for range times {
			*list = append(*list, n)
		}
		if len(*list) > most {
			p.fails(p.line, why)
			return
		}
	}
}

// few reads a line of a set number of words.
func (p *plainReader) few(first string, words []string) {
	kinds := takes[first]
	var numbers [2]int64
	for i, w := range words {
		if i == len(kinds) {
			p.fails(p.line, api.ErrExtra)
			return
		}
		is := false
		switch kinds[i] {
		case 'n':
			numbers[i], is = anyNumber(w)
		case 'p':
			numbers[i], is = upTo(w, 4096)
		case 'm':
			for kind, name := range []string{"polite", "karma", "polka", "greedy", "oracle"} {
				if name == w {
					numbers[i], is = int64(kind), true
				}
			}
		}
		if !is {
			p.fails(p.line, api.ErrOperand)
			return
		}
	}
	if len(words) < len(kinds) {
		p.fails(p.line, api.ErrMissing)
		return
	}
	switch first {
	case "manager":
		p.script.Manager, p.script.Patience = int(numbers[0]), int(numbers[1])
	case "thread":
		p.script.Threads = append(p.script.Threads, nil)
	case "program":
		p.program()
	default:
		p.job(machine.Job{Kind: jobKinds[first], Key: numbers[0], Other: numbers[1]})
	}
}

func (p *plainReader) job(j machine.Job) {
	last := &p.script.Threads[len(p.script.Threads)-1]
	*last = append(*last, j)
}

func (p *plainReader) program() {
	own, text := p.line, ""
	for {
		if p.line == len(p.lines) {
			p.fails(p.line, api.ErrLine)
			return
		}
		words := p.words()
		p.line++
		if strings.Join(words, "|") == "end" {
			break
		}
		text += p.lines[p.line-1] + "\n"
	}
	code, f := lang.Parse(text)
	if f.Err != api.OK {
		p.fails(own+f.Line, f.Err)
	}
	p.job(machine.Job{Program: code})
}

// plainPrint writes a script that may be.
func plainPrint(s machine.Script) string {
	text := "objects" + plainList(s.Objects) + fmt.Sprintf("\nmanager %s %d\n", []string{"polite", "karma", "polka", "greedy", "oracle"}[s.Manager], s.Patience)
	text += "draws" + plainList(s.Draws) + "\n"
	for _, jobs := range s.Threads {
		text += "thread\n"
		for _, j := range jobs {
			switch j.Kind {
			case api.JobProgram:
				code, _ := lang.Print(j.Program)
				text += "program\n" + code + "end\n"
			case api.JobLeast, api.JobSize:
				text += map[int]string{4: "least", 5: "size"}[j.Kind] + "\n"
			case api.JobMove:
				text += fmt.Sprintf("move %d %d\n", j.Key, j.Other)
			default:
				text += fmt.Sprintf("%s %d\n", []string{"", "insert", "remove", "contains"}[j.Kind], j.Key)
			}
		}
	}
	text += "picks"
	for n := 0; n < len(s.Picks); n++ {
		many := 1
		for n+1 < len(s.Picks) && s.Picks[n+1] == s.Picks[n] {
			many++
			n++
		}
		text += strings.TrimSuffix(fmt.Sprintf(" %d*%d", s.Picks[n], many), "*1")
	}
	return text + "\n"
}

func plainList(list []int64) string {
	text := ""
	for _, n := range list {
		text += fmt.Sprint(" ", n)
	}
	return text
}

// plainName is a name by its place in a list, or ? and the number.
func plainName(n int, list string) string {
	all := strings.Fields(list)
	if n < 0 || n >= len(all) {
		return fmt.Sprintf("?%d", n)
	}
	return all[n]
}

func plainValue(v api.Value) string {
	return strings.NewReplacer("false", "0", "true", "1").Replace(fmt.Sprintf("%d,%d,%v", v.Num, v.Next, v.Dead))
}

// plainLine is a row's line: all words with their blank ones, which are then taken out.
func plainLine(r api.Row) string {
	who := strings.Replace(fmt.Sprintf("t%d", r.Thread)+"!", "t-1!", "-!", 1)
	line := fmt.Sprintf("%d %s %s", r.Step, strings.TrimSuffix(who, "!"), plainName(r.Kind, strings.Join(kindNames, " ")))
	for _, w := range []struct {
		blank bool
		word  string
	}{
		{r.Job == -1, fmt.Sprintf("job=%d", r.Job)},
		{r.Try == 0, fmt.Sprintf("try=%d", r.Try)},
		{r.Attempt == -1, fmt.Sprintf("attempt=%d", r.Attempt)},
		{r.Phase == 0, "phase=" + plainName(r.Phase, "none read write final quit")},
		{r.Object == -1, fmt.Sprintf("object=%d", r.Object)},
		{r.Entry == -1, fmt.Sprintf("entry=%d", r.Entry)},
		{r.Enemy == -1, fmt.Sprintf("enemy=%d", r.Enemy)},
		{r.Cell == -1, fmt.Sprintf("cell=%d", r.Cell)},
		{r.Seen == 0, fmt.Sprintf("seen=%d", r.Seen)},
		{r.Wrote == 0, fmt.Sprintf("wrote=%d", r.Wrote)},
		{!r.Done, "done"},
		{!r.Abort, "abort"},
		{!r.Timeout, "timeout"},
		{r.Wait == 0, fmt.Sprintf("wait=%d", r.Wait)},
		{!r.Told, "told"},
		{r.Value == api.Value{}, "value=" + plainValue(r.Value)},
		{!r.Puts, "puts"},
		{r.Put == api.Value{}, "put=" + plainValue(r.Put)},
		{r.End == 0, "end=" + plainName(r.End, "none commit user bad stale killed")},
	} {
		if !w.blank {
			line += " " + w.word
		}
	}
	return line
}

func plainTrace(rows []api.Row) string {
	var text strings.Builder
	for _, r := range rows {
		text.WriteString(plainLine(r) + "\n")
	}
	return text.String()
}

// rowPattern is what a row's line may look like: which numbers and names may stand there is asked behind it.
var rowPattern = func() *regexp.Regexp {
	maybe := func(key, what string) string { return `(?: ` + key + what + `)?` }
	number, value := aNumber, aNumber+`,`+aNumber+`,[01]`
	text := `^` + aNumber + ` (?:-|t` + aNumber + `) (?:` + strings.Join(kindNames, "|") + `|\?` + aNumber + `)`
	for _, key := range []string{"job=", "try=", "attempt="} {
		text += maybe(key, number)
	}
	text += maybe("phase=", `(?:read|write|final|quit|\?`+aNumber+`)`)
	for _, key := range []string{"object=", "entry=", "enemy=", "cell=", "seen=", "wrote="} {
		text += maybe(key, number)
	}
	text += maybe("done", "") + maybe("abort", "") + maybe("timeout", "") + maybe("wait=", number) + maybe("told", "")
	text += maybe("value=", value) + maybe("puts", "") + maybe("put=", value)
	return regexp.MustCompile(text + maybe("end=", `(?:commit|user|bad|stale|killed|\?`+aNumber+`)`) + `$`)
}()

// blankWord is a word that a row's line does not have, though it looks like one.
var blankWord = regexp.MustCompile(` (t-1|\?[0-9]|\?1[0-7]|(job|attempt|object|entry|enemy|cell)=-1|(try|seen|wrote|wait)=0|phase=\?[0-4]|end=\?[0-5]|(value|put)=0,0,0) `)

// plainRowsFault is the first line of a text that is no row's; 0: there is none.
func plainRowsFault(text string) int {
	lines := strings.Split(text, "\n")
	for i, line := range lines {
		if i == len(lines)-1 && line == "" {
			break
		}
		good := i < len(lines)-1 && rowPattern.MatchString(line) && !blankWord.MatchString(strings.ReplaceAll(line, " ", "  ")+" ")
		for _, n := range digits.FindAllString(line, -1) {
			_, is := anyNumber(n)
			good = good && is
		}
		if !good {
			return i + 1
		}
	}
	return 0
}

// plainRun is what Run is to tell of a result.
func plainRun(r machine.Result) string {
	text := plainTrace(r.Rows) + "answers\n"
	for p, answers := range r.Answers {
		for n, a := range answers {
			yes := map[bool]int{true: 1}[a.Yes]
			text += fmt.Sprintf("t%d j%d %s %d %d %d\n", p, n, []string{"none", "commit", "user", "bad"}[a.Outcome], a.Result, yes, a.Tries)
		}
	}
	text += "finals\n"
	for _, v := range r.Finals {
		text += plainValue(v) + "\n"
	}
	return text
}

// plainJudged is what Judged is to tell of a result.
func plainJudged(t *testing.T, s machine.Script, r machine.Result) string {
	t.Helper()
	first, a := machine.First(s)
	serial, b := judge.Serial(s, r)
	opaque, c := judge.Opaque(first, r.Rows)
	calls, d := linear.Calls(s, r)
	set, e := linear.ByPoints(calls)
	list, f := linear.Lists(s, r)
	keys, g := linear.Keys(calls)
	if a != api.OK || b != api.OK || c != api.OK || d != api.OK || e != api.OK || f != api.OK || g != api.OK {
		t.Fatal(a, b, c, d, e, f, g)
	}
	text := ""
	for _, j := range []struct {
		name string
		good bool
		at   string
	}{
		{"serial", serial.Good, fmt.Sprint(serial.Tx, " ", serial.Saw)},
		{"opaque", opaque.Good, fmt.Sprint(opaque.Tx, " ", opaque.Saw)},
		{"set", set == -1, fmt.Sprint(set)},
		{"list", list == -1, fmt.Sprint(list)},
	} {
		text += j.name + map[bool]string{true: " good", false: " bad " + j.at}[j.good] + "\n"
	}
	return text + "keys" + plainList(keys) + "\n"
}
