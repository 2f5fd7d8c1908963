package lang

import (
	"slices"
	"strings"

	"braid/word"
)

// canBe lays what the instruction's code uses into a blank one: what is left over then is a field that it does not use.
func canBe(in Instr, end int) bool {
	if in.Code < Get || in.Code > Done {
		return false
	}
	used := Instr{Code: in.Code}
	good := true
	if in.Code == Calc {
		used.Op = in.Op
		good = word.OpName(in.Op) != ""
	}
	for _, s := range shapes[in.Code].slots {
		good = use(&used, in, s, end) && good
	}
	return good && used == in
}

// use takes one field over, and tells whether it is in its bounds.
func use(used *Instr, in Instr, s slot, end int) bool {
	switch s {
	case slotDst:
		used.Dst = in.Dst
		return isReg(int64(in.Dst))
	case slotObj:
		used.Obj = in.Obj
		return inBounds(in.Obj)
	case slotX:
		used.X = in.X
		return inBounds(in.X)
	case slotY:
		used.Y = in.Y
		return inBounds(in.Y)
	case slotRel:
		used.Rel = in.Rel
		return word.RelName(in.Rel) != ""
	}
	used.To = in.To
	return in.To >= 0 && in.To <= end
}

func inBounds(o Operand) bool { return !o.Reg || isReg(o.Num) }

// labelsOf answers a label for each place that is jumped to, the end too; the others have none.
func labelsOf(code []Instr) []string {
	var targets []int
	for _, in := range code {
		if jumps(in) {
			targets = append(targets, in.To)
		}
	}
	slices.Sort(targets)
	labels := make([]string, len(code)+1)
	for k, place := range slices.Compact(targets) {
		labels[place] = "l" + word.Format(int64(k))
	}
	return labels
}

func line(in Instr, labels []string) string {
	words := []string{shapes[in.Code].name}
	if in.Code == Calc {
		words[0] = word.OpName(in.Op)
	}
	for _, s := range shapes[in.Code].slots {
		words = append(words, told(in, s, labels))
	}
	return strings.Join(words, " ")
}

// told answers the word that stands at a slot.
func told(in Instr, s slot, labels []string) string {
	switch s {
	case slotDst:
		return source(Operand{Reg: true, Num: int64(in.Dst)})
	case slotObj:
		return "@" + source(in.Obj)
	case slotX:
		return source(in.X)
	case slotY:
		return source(in.Y)
	case slotRel:
		return word.RelName(in.Rel)
	}
	return labels[in.To]
}

func source(o Operand) string {
	if o.Reg {
		return "r" + word.Format(o.Num)
	}
	return word.Format(o.Num)
}

// walks keeps, for each place, the length of the longest walk from it: 0, if no walk has come to it yet.
type walks struct {
	code    []Instr
	lengths [MaxCode]int
}

// onTheWay stands in place of a length while the walks from that place are still gone through: who comes to it then, comes to it again.
const onTheWay = -1

// from answers the length of the longest walk from a place; false, if a walk from there runs in a circle.
func (w *walks) from(place int) (int, bool) {
	if place == len(w.code) {
		return 0, true
	}
	if known := w.lengths[place]; known != 0 {
		return known, known != onTheWay
	}
	w.lengths[place] = onTheWay
	longest := 0
	for _, next := range nexts(w.code[place], place) {
		length, ends := w.from(next)
		if !ends {
			return 0, false
		}
		longest = max(longest, length)
	}
	w.lengths[place] = 1 + longest
	return 1 + longest, true
}

// nexts answers the places at which a walk may go on.
func nexts(in Instr, place int) []int {
	switch in.Code {
	case Goto:
		return []int{in.To}
	case If:
		return []int{in.To, place + 1}
	case Quit, Done:
		return nil
	}
	return []int{place + 1}
}
