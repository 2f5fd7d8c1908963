// Package word: the numbers of the language: see DOC.md, layer 1.
package word

import (
	"math"
	"math/bits"
	"strconv"

	"braid/api"
)

// Op is an operator of two numbers.
type Op int

const (
	Add Op = iota + 1
	Sub
	Mul
	Div
	Rem
	And
	Or
	Xor
	Shl
	Shr
	Min
	Max
)

// Rel is a relation of two numbers.
type Rel int

const (
	Eq Rel = iota + 1
	Ne
	Lt
	Le
	Gt
	Ge
)

// In both tables a name's place is its number; place 0 is nobody's. (The operators' functions stand inside Apply, by the same places: no function stands at package level.)
var (
	opNames = [...]string{
		Add: "add",
		Sub: "sub",
		Mul: "mul",
		Div: "div",
		Rem: "rem",
		And: "and",
		Or:  "or",
		Xor: "xor",
		Shl: "shl",
		Shr: "shr",
		Min: "min",
		Max: "max",
	}
	relNames = [...]string{
		Eq: "==",
		Ne: "!=",
		Lt: "<",
		Le: "<=",
		Gt: ">",
		Ge: ">=",
	}
)

// Draws is a stream of draws over raw numbers.
type Draws struct {
	raw   []int64
	taken int
}

// Apply answers an operator's answer (P1.1).
func Apply(op Op, a int64, b int64) (int64, api.Errno) {
	if !isOp(op) {
		return 0, api.ErrOp
	}
	operators := [...]func(a, b int64) int64{
		Add: func(a, b int64) int64 { return a + b },
		Sub: func(a, b int64) int64 { return a - b },
		Mul: func(a, b int64) int64 { return a * b },
		Div: func(a, b int64) int64 {
			if b == 0 {
				return 0
			}
			return a / b // Go wraps here: the least int64 by -1 does not panic
		},
		Rem: func(a, b int64) int64 {
			if b == 0 {
				return a
			}
			return a % b
		},
		And: func(a, b int64) int64 { return a & b },
		Or:  func(a, b int64) int64 { return a | b },
		Xor: func(a, b int64) int64 { return a ^ b },
		Shl: func(a, b int64) int64 { return a << shift(b) },
		Shr: func(a, b int64) int64 { return a >> shift(b) },
		Min: func(a, b int64) int64 { return min(a, b) },
		Max: func(a, b int64) int64 { return max(a, b) },
	}
	return operators[op](a, b), api.OK
}

// Holds tells whether two numbers stand in a relation (P1.2).
func Holds(rel Rel, a int64, b int64) (bool, api.Errno) {
	switch rel {
	case Eq:
		return a == b, api.OK
	case Ne:
		return a != b, api.OK
	case Lt:
		return a < b, api.OK
	case Le:
		return a <= b, api.OK
	case Gt:
		return a > b, api.OK
	case Ge:
		return a >= b, api.OK
	}
	return false, api.ErrRel
}

// OpName tells an operator's name (P1.3).
func OpName(op Op) string {
	if !isOp(op) {
		return ""
	}
	return opNames[op]
}

// OpNamed tells the operator of a name (P1.3).
func OpNamed(name string) (Op, api.Errno) {
	for op := Add; op <= Max; op++ {
		if opNames[op] == name {
			return op, api.OK
		}
	}
	return 0, api.ErrOp
}

// RelName tells a relation's name (P1.3).
func RelName(rel Rel) string {
	if rel < Eq || rel > Ge {
		return ""
	}
	return relNames[rel]
}

// RelNamed tells the relation of a name (P1.3).
func RelNamed(name string) (Rel, api.Errno) {
	for rel := Eq; rel <= Ge; rel++ {
		if relNames[rel] == name {
			return rel, api.OK
		}
	}
	return 0, api.ErrRel
}

// SatAdd answers a sum that stops at the ends (P1.4).
func SatAdd(a int64, b int64) int64 {
	if a > 0 && b > math.MaxInt64-a {
		return math.MaxInt64
	}
	if a < 0 && b < math.MinInt64-a {
		return math.MinInt64
	}
	return a + b
}

// SatMul answers a product that stops at the ends (P1.4).
func SatMul(a int64, b int64) int64 {
	high, low := bits.Mul64(magnitude(a), magnitude(b))
	if (a < 0) != (b < 0) {
		if high > 0 || low >= 1<<63 {
			return math.MinInt64
		}
		return -int64(low)
	}
	if high > 0 || low >= 1<<63 {
		return math.MaxInt64
	}
	return int64(low)
}

// Format answers a number's text (P1.5).
func Format(n int64) string { return strconv.FormatInt(n, 10) }

// Parse answers a text's number (P1.5).
func Parse(s string) (int64, api.Errno) {
	// The form is looked at first: strconv takes texts that are no numbers here ("+1", "007"), and stops at the range before it has seen the whole text.
	if !isNumber(s) {
		return 0, api.ErrNumber
	}
	n, err := strconv.ParseInt(s, 10, 64)
	if err != nil {
		return 0, api.ErrRange
	}
	return n, api.OK
}

// NewDraws makes a stream (P1.6).
func NewDraws(raw []int64) *Draws {
	own := make([]int64, len(raw))
	copy(own, raw)
	return &Draws{raw: own}
}

// Next answers the next raw number (P1.6).
func (d *Draws) Next() int64 {
	if d.Left() == 0 {
		return 0
	}
	x := d.raw[d.taken]
	d.taken++
	return x
}

// Below answers a draw below n (P1.6).
func (d *Draws) Below(n int64) int64 {
	if n <= 1 {
		return 0
	}
	return int64(uint64(d.Next()) % uint64(n))
}

// Taken tells how many numbers were taken (P1.6).
func (d *Draws) Taken() int {
	if d == nil {
		return 0
	}
	return d.taken
}

// Left tells how many numbers are left (P1.6).
func (d *Draws) Left() int {
	if d == nil {
		return 0
	}
	return len(d.raw) - d.taken
}

func isOp(op Op) bool { return op >= Add && op <= Max }

// shift keeps six bits: Go panics at a negative count, and answers 0 or the sign from 64 on.
func shift(b int64) uint64 { return uint64(b) & 63 }

// magnitude is unsigned, as that of the least int64 is no int64.
func magnitude(n int64) uint64 {
	if n < 0 {
		return -uint64(n)
	}
	return uint64(n)
}

// isNumber tells whether s has the form of a number's text, of any length.
func isNumber(s string) bool {
	digits := s
	if s != "" && s[0] == '-' {
		digits = s[1:]
	}
	if digits == "" {
		return false
	}
	if digits[0] == '0' {
		return s == "0"
	}
	for i := 0; i < len(digits); i++ {
		if digits[i] < '0' || digits[i] > '9' {
			return false
		}
	}
	return true
}
