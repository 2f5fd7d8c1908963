package compile

import (
	"slices"

	"braid/lang"
	"braid/word"
)

// tidied takes out of a program what it can do without. As one change makes room for others, it goes on until there is none.
func tidied(code []lang.Instr) []lang.Instr {
	for {
		next := swept(straight(code))
		if slices.Equal(next, code) {
			return next
		}
		code = next
	}
}

// straight answers the program with Gotos for what does no more than they do, and with every jump straight to where it leads
// in the end.
func straight(code []lang.Instr) []lang.Instr {
	code = slices.Clone(code)
	for place := range code {
		code[place] = plainer(code, place)
	}
	for place, in := range code {
		if jumps(in) {
			code[place].To = landing(code, in.To)
		}
	}
	return code
}

// plainer answers a Goto that does what the instruction at a place does, or that instruction, if no Goto does.
func plainer(code []lang.Instr, place int) lang.Instr {
	in := code[place]
	there, on := lang.Instr{Code: lang.Goto, To: in.To}, lang.Instr{Code: lang.Goto, To: place + 1}
	switch {
	case in.Code == lang.Let && in.X == register(in.Dst):
		return on
	case in.Code != lang.If:
		return in
	case landing(code, in.To) == landing(code, place+1):
		return there
	case in.X.Reg || in.Y.Reg:
		return in
	}
	if holds, _ := word.Holds(in.Rel, in.X.Num, in.Y.Num); holds {
		return there
	}
	return on
}

// landing answers where one who comes to a place is behind all Gotos that follow. In a ring of Gotos, which has no behind, it
// is the least place of the ring.
func landing(code []lang.Instr, place int) int {
	for range len(code) + 1 {
		if place == len(code) || code[place].Code != lang.Goto {
			return place
		}
		place = code[place].To
	}
	// so many Gotos are more than there are: this is in a ring
	least := place
	for next := code[place].To; next != place; next = code[next].To {
		least = min(least, next)
	}
	return least
}

// swept takes out what no walk comes to, and Gotos to the place just behind them.
func swept(code []lang.Instr) []lang.Instr {
	come := reached(code)
	left := make([]lang.Instr, 0, len(code))
	moved := make([]int, len(code)+1) // where what stood at a place, or behind it, stands now
	for place, in := range code {
		moved[place] = len(left)
		if come[place] && (in.Code != lang.Goto || in.To != place+1) {
			left = append(left, in)
		}
	}
	moved[len(code)] = len(left)
	for place, in := range left {
		if jumps(in) {
			left[place].To = moved[in.To]
		}
	}
	return left
}

// reached tells to which places walks come, the program's end among them.
func reached(code []lang.Instr) []bool {
	come := make([]bool, len(code)+1)
	var walk func(place int)
	walk = func(place int) {
		if come[place] {
			return
		}
		come[place] = true
		if place == len(code) {
			return
		}
		in := code[place]
		if jumps(in) {
			walk(in.To)
		}
		if in.Code != lang.Goto && in.Code != lang.Quit && in.Code != lang.Done {
			walk(place + 1)
		}
	}
	walk(0)
	return come
}

func jumps(in lang.Instr) bool { return in.Code == lang.If || in.Code == lang.Goto }
