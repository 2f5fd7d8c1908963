package script

import (
	"strings"

	"braid/api"
	"braid/judge"
	"braid/lang"
	"braid/linear"
	"braid/machine"
	"braid/word"
)

// sentence is a line of words.
func sentence(first string, rest ...string) string {
	var line strings.Builder
	line.WriteString(first)
	for _, w := range rest {
		line.WriteString(" " + w)
	}
	return line.String() + "\n"
}

// number is a number's text, of whatever kind it is.
func number[N ~int | int64](n N) string { return word.Format(int64(n)) }

func numbers(list ...int64) []string {
	var words []string
	for _, n := range list {
		words = append(words, number(n))
	}
	return words
}

// bit is how a bool stands where numbers stand.
func bit(is bool) string {
	if is {
		return "1"
	}
	return "0"
}

// jobText writes a job that may be.
func jobText(j machine.Job) string {
	s := shapes[j.Kind]
	if j.Kind == api.JobProgram {
		code, _ := lang.Print(j.Program)
		return sentence(s.name) + code + sentence("end")
	}
	keys := [2]int64{j.Key, j.Other}
	return sentence(s.name, numbers(keys[:s.keys]...)...)
}

// stretches are the words of picks, each of a longest stretch of one number.
func stretches(picks []int64) []string {
	var words []string
	for from, to := 0, 0; from < len(picks); from = to {
		for to < len(picks) && picks[to] == picks[from] {
			to++
		}
		w := number(picks[from])
		if to-from > 1 {
			w += "*" + number(to-from)
		}
		words = append(words, w)
	}
	return words
}

func answersText(threads [][]api.Answer) string {
	text := sentence("answers")
	for p, answers := range threads {
		for n, a := range answers {
			text += sentence("t"+number(p), "j"+number(n), named(a.Outcome, ends), number(a.Result), bit(a.Yes), number(a.Tries))
		}
	}
	return text
}

func finalsText(values []api.Value) string {
	text := sentence("finals")
	for _, v := range values {
		text += sentence(valueText(v))
	}
	return text
}

// judgesText tells what the judges find of a script's run. They refuse no such run, so no error comes.
func judgesText(s machine.Script, r machine.Result) string {
	first, _ := machine.First(s)
	serial, _ := judge.Serial(s, r)
	opaque, _ := judge.Opaque(first, r.Rows)
	calls, _ := linear.Calls(s, r)
	call, _ := linear.ByPoints(calls)
	step, _ := linear.Lists(s, r)
	keys, _ := linear.Keys(calls)
	return finding("serial", serial.Good, serial.Tx, serial.Saw) +
		finding("opaque", opaque.Good, opaque.Tx, opaque.Saw) +
		finding("set", call == none, call) +
		finding("list", step == none, step) +
		sentence("keys", numbers(keys...)...)
}

// finding is a judge's line; at is told where it is bad.
func finding(who string, good bool, at ...int) string {
	if good {
		return sentence(who, "good")
	}
	words := []string{"bad"}
	for _, n := range at {
		words = append(words, number(n))
	}
	return sentence(who, words...)
}
