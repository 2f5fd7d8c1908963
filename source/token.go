package source

import (
	"strings"

	"braid/api"
	"braid/word"
)

// The words that are no names.
var keptWords = [...]string{"release", "if", "else", "while", "abort", "return", "take", "min", "max"}

// The signs of two bytes stand ahead: where two fit, the first one is the token.
var signs = [...]string{
	":=", "||", "&&", "==", "!=", "<=", ">=", "<<", ">>",
	";", "[", "]", "{", "}", "(", ")", ",", "<", ">", "+", "-", "|", "^", "*", "/", "%", "&", "!",
}

// spoken answers a text from its first token on: what stands ahead of that says nothing.
func spoken(text string) string {
	for {
		text = strings.TrimLeft(text, " \t\n")
		if !strings.HasPrefix(text, "#") {
			return text
		}
		_, text, _ = strings.Cut(text, "\n")
	}
}

// first answers the token with which a text begins; "": it begins with none.
func first(text string) string {
	switch {
	case text == "":
		return ""
	case isLetter(text[0]):
		return firstWord(text)
	case isDigit(text[0]):
		return firstNumber(text)
	}
	return firstSign(text)
}

func firstWord(text string) string {
	run := longest(text, func(b byte) bool { return isLetter(b) || isDigit(b) })
	if len(run) > MaxLetter {
		return ""
	}
	return run
}

func firstNumber(text string) string {
	run := longest(text, isDigit)
	if _, e := word.Parse(run); e != api.OK {
		return ""
	}
	return run
}

func firstSign(text string) string {
	for _, s := range signs {
		if strings.HasPrefix(text, s) {
			return s
		}
	}
	return ""
}

// longest answers the longest beginning of a text that has such bytes alone.
func longest(text string, is func(b byte) bool) string {
	end := 0
	for end < len(text) && is(text[end]) {
		end++
	}
	return text[:end]
}

func isName(text string) bool {
	return text != "" && isLetter(text[0]) && firstWord(text) == text && !isKept(text)
}

func isKept(text string) bool {
	for _, w := range keptWords {
		if w == text {
			return true
		}
	}
	return false
}

func isLetter(b byte) bool { return b >= 'a' && b <= 'z' }

func isDigit(b byte) bool { return b >= '0' && b <= '9' }
