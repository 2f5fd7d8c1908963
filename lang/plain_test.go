package lang_test

import (
	"math/big"
	"regexp"
	"slices"
	"strconv"
	"strings"

	"braid/api"
	"braid/lang"
	"braid/word"
)

// What follows says the chapter once more, as plainly as can be: words and operands by patterns, instructions by the
// forms of the chapter's table, walks by the sets of places that they have come to.

var (
	aComment = regexp.MustCompile(`#.*`)
	anyWord  = regexp.MustCompile(`[^ \t]+`)
	aName    = regexp.MustCompile(`\A[a-z][a-z0-9]{0,15}\z`)
	aReg     = regexp.MustCompile(`\Ar([0-9]|1[0-5])\z`)
	aNumber  = regexp.MustCompile(`\A(0|-?[1-9][0-9]*)\z`)
	aSpeller = regexp.MustCompile(`\A(add|sub|mul|div|rem|and|or|xor|shl|shr|min|max)\z`)
)

// formOf tells how an instruction with that word is written; nil: there is none.
func formOf(name string) []string {
	if aSpeller.MatchString(name) {
		return []string{"rD", "SRC", "SRC"}
	}
	for _, c := range codes {
		if form := strings.Fields(c.form); form[0] == name {
			return append([]string{}, form[1:]...)
		}
	}
	return nil
}

func isSource(text string) bool {
	if aReg.MatchString(text) {
		return true
	}
	n, _ := new(big.Int).SetString(text, 10)
	return aNumber.MatchString(text) && n.IsInt64()
}

func fits(kind, text string) bool {
	switch kind {
	case "rD":
		return aReg.MatchString(text)
	case "SRC":
		return isSource(text)
	case "OBJ":
		return strings.HasPrefix(text, "@") && isSource(text[1:])
	case "REL":
		return slices.Contains(strings.Fields(relations), text)
	}
	return aName.MatchString(text)
}

// plainText is a text on its way: its places by their names, its lines' instructions as words.
type plainText struct {
	places map[string]int
	instrs [][]string
	wanted []lang.Fault // one for each operand LABEL, in their order, as if it were unknown
	names  []string
}

func (p *plainText) line(number int, text string) lang.Fault {
	text = aComment.ReplaceAllString(text, "")
	words := anyWord.FindAllString(text, -1)
	where := anyWord.FindAllStringIndex(text, -1)
	at := func(i int, e api.Errno) lang.Fault { return lang.Fault{Err: e, Line: number, Col: where[i][0] + 1} }
	i := 0
	for ; i < len(words) && strings.HasSuffix(words[i], ":"); i++ {
		name := words[i][:len(words[i])-1]
		if !aName.MatchString(name) {
			return at(i, api.ErrWord)
		}
		if _, ok := p.places[name]; ok {
			return at(i, api.ErrTwice)
		}
		p.places[name] = len(p.instrs)
	}
	if i == len(words) {
		return lang.Fault{}
	}
	form := formOf(words[i])
	if form == nil {
		return at(i, api.ErrWord)
	}
	if len(p.instrs) == 64 {
		return at(i, api.ErrMany)
	}
	for k, kind := range form {
		if i+1+k == len(words) {
			return lang.Fault{Err: api.ErrMissing, Line: number, Col: where[len(words)-1][1] + 1}
		}
		if !fits(kind, words[i+1+k]) {
			return at(i+1+k, api.ErrOperand)
		}
		if kind == "LABEL" {
			p.names = append(p.names, words[i+1+k])
			p.wanted = append(p.wanted, at(i+1+k, api.ErrLabel))
		}
	}
	if i+1+len(form) < len(words) {
		return at(i+1+len(form), api.ErrExtra)
	}
	p.instrs = append(p.instrs, words[i:])
	return lang.Fault{}
}

func operandOf(text string) lang.Operand {
	digits, isReg := strings.CutPrefix(strings.TrimPrefix(text, "@"), "r")
	n, _ := strconv.ParseInt(digits, 10, 64)
	return lang.Operand{Reg: isReg, Num: n}
}

// instr makes an instruction of words that have no fault.
func (p *plainText) instr(words []string) lang.Instr {
	var in lang.Instr
	for _, c := range codes {
		if strings.Fields(c.form)[0] == words[0] {
			in.Code = c.code
		}
	}
	if at := slices.Index(strings.Fields(operators), words[0]); at >= 0 {
		in.Code, in.Op = lang.Calc, word.Op(at+1)
	}
	sources := []*lang.Operand{&in.X, &in.Y}
	for k, kind := range formOf(words[0]) {
		text := words[k+1]
		switch kind {
		case "rD":
			in.Dst = int(operandOf(text).Num)
		case "OBJ":
			in.Obj = operandOf(text)
		case "SRC":
			*sources[0] = operandOf(text)
			sources = sources[1:]
		case "REL":
			in.Rel = word.Rel(slices.Index(strings.Fields(relations), text) + 1)
		case "LABEL":
			in.To = p.places[text]
		}
	}
	return in
}

func plainParse(text string) ([]lang.Instr, lang.Fault) {
	if len(text) > 4096 {
		return nil, lang.Fault{Err: api.ErrLong}
	}
	p := plainText{places: map[string]int{}}
	for i, line := range strings.Split(text, "\n") {
		if f := p.line(i+1, line); f != (lang.Fault{}) {
			return nil, f
		}
	}
	for i, name := range p.names {
		if _, ok := p.places[name]; !ok {
			return nil, p.wanted[i]
		}
	}
	var code []lang.Instr
	for _, words := range p.instrs {
		code = append(code, p.instr(words))
	}
	return code, lang.Fault{}
}

// plainCheck looks at one field behind the other, by the comments of the type.
func plainCheck(code []lang.Instr) (api.Errno, int) {
	if len(code) > 64 {
		return api.ErrMany, 0
	}
	for place, in := range code {
		operand := func(name string, o lang.Operand) bool {
			if uses(in.Code, name) {
				return !o.Reg || o.Num >= 0 && o.Num <= 15
			}
			return o == lang.Operand{}
		}
		number := func(name string, n, from, to int) bool {
			if uses(in.Code, name) {
				return n >= from && n <= to
			}
			return n == 0
		}
		if in.Code < 1 || in.Code > 10 ||
			!operand("Obj", in.Obj) || !operand("X", in.X) || !operand("Y", in.Y) ||
			!number("Dst", in.Dst, 0, 15) || !number("Op", int(in.Op), 1, 12) ||
			!number("Rel", int(in.Rel), 1, 6) || !number("To", in.To, 0, len(code)) {
			return api.ErrCode, place
		}
	}
	return api.OK, 0
}

func plainOperand(o lang.Operand) string {
	if o.Reg {
		return "r" + strconv.FormatInt(o.Num, 10)
	}
	return strconv.FormatInt(o.Num, 10)
}

func plainForward(code []lang.Instr) bool {
	for place, in := range code {
		if uses(in.Code, "To") && in.To <= place {
			return false
		}
	}
	return true
}

// plainPrint asks anew for each place which places ahead of it are jumped to.
func plainPrint(code []lang.Instr) string {
	wanted := func(place int) bool {
		return slices.ContainsFunc(code, func(in lang.Instr) bool { return uses(in.Code, "To") && in.To == place })
	}
	label := func(place int) string {
		k := 0
		for ahead := range place {
			if wanted(ahead) {
				k++
			}
		}
		return "l" + strconv.Itoa(k)
	}
	var text strings.Builder
	for place := range len(code) + 1 {
		if wanted(place) {
			text.WriteString(label(place) + ":\n")
		}
		if place == len(code) {
			break
		}
		in := code[place]
		form := strings.Fields(codes[in.Code-1].form)
		if in.Code == lang.Calc {
			form[0] = strings.Fields(operators)[in.Op-1]
		}
		sources := []lang.Operand{in.X, in.Y}
		for k, kind := range form {
			switch kind {
			case "rD":
				form[k] = "r" + strconv.Itoa(in.Dst)
			case "OBJ":
				form[k] = "@" + plainOperand(in.Obj)
			case "SRC":
				form[k] = plainOperand(sources[0])
				sources = sources[1:]
			case "REL":
				form[k] = strings.Fields(relations)[in.Rel-1]
			case "LABEL":
				form[k] = label(in.To)
			}
		}
		text.WriteString(strings.Join(form, " ") + "\n")
	}
	return text.String()
}

// plainLongest goes all walks at once: where they may stand behind 0, 1, 2, .. instructions. A walk of more
// instructions than there are has come to one of them twice.
func plainLongest(code []lang.Instr) (int, api.Errno) {
	at := map[int]int{0: 1}
	for length := 0; length <= len(code); length++ {
		next := map[int]int{}
		under := false
		for place := range at {
			if place == len(code) {
				continue
			}
			under = true
			in := code[place]
			if in.Code == lang.Goto || in.Code == lang.If {
				next[in.To] = 1
			}
			if in.Code != lang.Goto && in.Code != lang.Quit && in.Code != lang.Done {
				next[place+1] = 1
			}
		}
		if !under {
			return length, api.OK
		}
		at = next
	}
	return 0, api.ErrLoop
}
