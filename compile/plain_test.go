package compile_test

import (
	"regexp"
	"slices"
	"strconv"
	"strings"
	"testing"

	"braid/api"
	"braid/fixture"
	"braid/lang"
	"braid/source"
)

// What follows says 25.1 to 25.5 once more, as plainly as can be: instructions are lines of a text, jumps name their labels, and
// lists of lines are laid behind one another.

var (
	tooHigh = regexp.MustCompile(`\br(1[6-9]|[2-9][0-9])\b`)
	aLabel  = regexp.MustCompile(`\A[a-z0-9]+:\z`)
)

// opposites are the relations, each beside the one that holds just where it does not.
const opposites = "== != / != == / < >= / > <= / <= > / >= <"

type plainCompiler struct {
	names  []string
	labels int
}

func (p *plainCompiler) label() string {
	p.labels++
	return "l" + strconv.Itoa(p.labels)
}

func (p *plainCompiler) temporary(d int) string { return "r" + strconv.Itoa(len(p.names)+d) }

func (p *plainCompiler) variable(w string) string {
	return "r" + strconv.Itoa(slices.Index(p.names, w))
}

func leaf(e source.Expr) bool { return e.Kind == source.Number || e.Kind == source.Name }

func (p *plainCompiler) value(e source.Expr, d int) (list []string, operand string) {
	r := p.temporary(d)
	switch {
	case e.Kind == source.Number:
		return nil, strconv.FormatInt(e.Num, 10)
	case e.Kind == source.Name:
		return nil, p.variable(e.Word)
	case e.Kind == source.Not || e.Kind == source.Binary && !slices.Contains(strings.Fields(fixture.Sums), e.Word):
		no, end := p.label(), p.label()
		list = append(p.jump(e, d, no, false), "let "+r+" 1", "goto "+end, no+":", "let "+r+" 0", end+":")
		return list, r
	case e.Kind == source.Binary:
		list, x, y := p.pair(e.Args[0], e.Args[1], d)
		op := strings.Fields(fixture.SumNames)[slices.Index(strings.Fields(fixture.Sums), e.Word)]
		return append(list, op+" "+r+" "+x+" "+y), r
	}
	list, o := p.value(e.Args[0], d)
	form := map[int]string{source.Object: "get R @", source.Taken: "take R @", source.Minus: "sub R 0 "}[e.Kind]
	return append(list, strings.Replace(form, "R", r, 1)+o), r
}

func (p *plainCompiler) pair(a, b source.Expr, d int) (list []string, x, y string) {
	first, x := p.value(a, d)
	at := d + 1
	if leaf(a) {
		at = d
	}
	second, y := p.value(b, at)
	return append(first, second...), x, y
}

// jump is what leads to a label where an expression is true, or where it is false.
func (p *plainCompiler) jump(e source.Expr, d int, to string, where bool) []string {
	if e.Kind == source.Not {
		return p.jump(e.Args[0], d, to, !where)
	}
	m := p.label()
	switch {
	case e.Word == "&&" && !where:
		return append(p.jump(e.Args[0], d, to, false), p.jump(e.Args[1], d, to, false)...)
	case e.Word == "&&":
		return append(append(p.jump(e.Args[0], d, m, false), p.jump(e.Args[1], d, to, true)...), m+":")
	case e.Word == "||" && !where:
		return append(append(p.jump(e.Args[0], d, m, true), p.jump(e.Args[1], d, to, false)...), m+":")
	case e.Word == "||":
		return append(p.jump(e.Args[0], d, to, true), p.jump(e.Args[1], d, to, true)...)
	}
	for _, two := range strings.Split(opposites, " / ") {
		if r := strings.Fields(two); e.Word == r[0] {
			list, x, y := p.pair(e.Args[0], e.Args[1], d)
			if where {
				return append(list, "if "+x+" "+r[0]+" "+y+" "+to)
			}
			return append(list, "if "+x+" "+r[1]+" "+y+" "+to)
		}
	}
	list, o := p.value(e, d)
	if where {
		return append(list, "if "+o+" != 0 "+to)
	}
	return append(list, "if "+o+" == 0 "+to)
}

func (p *plainCompiler) statements(list prog) []string {
	var all []string
	for _, s := range list {
		all = append(all, p.statement(s)...)
	}
	return all
}

func (p *plainCompiler) statement(s source.Stmt) []string {
	a, b := p.label(), p.label()
	switch s.Kind {
	case source.Assign:
		list, o := p.value(s.A, 0)
		return append(list, "let "+p.variable(s.Word)+" "+o)
	case source.Store:
		list, x, y := p.pair(s.A, s.B, 0)
		return append(list, "put @"+x+" "+y)
	case source.Release:
		list, o := p.value(s.A, 0)
		return append(list, "drop @"+o)
	case source.Return:
		list, o := p.value(s.A, 0)
		return append(list, "done "+o)
	case source.While:
		return slices.Concat([]string{a + ":"}, p.jump(s.A, 0, b, false), p.statements(s.Then), []string{"goto " + a, b + ":"})
	case source.If:
		behind := []string{a + ":"}
		if len(s.Else) > 0 {
			behind = slices.Concat([]string{"goto " + b, a + ":"}, p.statements(s.Else), []string{b + ":"})
		}
		return slices.Concat(p.jump(s.A, 0, a, false), p.statements(s.Then), behind)
	}
	return []string{"quit"}
}

// plainCompile is Compile of a source program that is not refused.
func plainCompile(t *testing.T, p prog) (program, api.Errno) {
	t.Helper()
	names, e := source.Names(p)
	if e != api.OK {
		t.Fatalf("Names(%q) = %d", said(p), e)
	}
	c := plainCompiler{names: names}
	list := c.statements(p)
	count := 0
	for _, line := range list {
		if !aLabel.MatchString(line) {
			count++
		}
	}
	all := strings.Join(list, "\n")
	switch {
	case tooHigh.MatchString(all):
		return nil, api.ErrRegs
	case count > 64:
		return nil, api.ErrLength
	}
	return fixture.Program(t, shortened(all)), api.OK
}

// shortened leaves out the labels to which no jump leads: a text may not be too long.
func shortened(all string) string {
	var list []string
	for _, line := range strings.Split(all, "\n") {
		if !aLabel.MatchString(line) || strings.Contains(all+"\n", " "+line[:len(line)-1]+"\n") {
			list = append(list, line)
		}
	}
	return strings.Join(list, "\n")
}

// untidy tells what of 25.6's fourth point does not hold of a program, in its words; "": it all holds.
func untidy(code program) string {
	on := map[int]bool{0: true}
	for range code { // so many rounds are enough for each walk
		for place, in := range code {
			if !on[place] {
				continue
			}
			switch in.Code {
			case lang.Goto:
				on[in.To] = true
			case lang.If:
				on[in.To], on[place+1] = true, true
			case lang.Quit, lang.Done:
			default:
				on[place+1] = true
			}
		}
	}
	for place, in := range code {
		jump := in.Code == lang.If || in.Code == lang.Goto
		switch {
		case !on[place]:
			return "an instruction stands on no walk"
		case jump && in.To == place+1:
			return "a jump leads to the place just behind it"
		case jump && in.To < len(code) && code[in.To].Code == lang.Goto && code[in.To].To != in.To:
			return "a jump leads to a Goto"
		case in.Code == lang.If && !in.X.Reg && !in.Y.Reg:
			return "an If has two numbers"
		case in.Code == lang.Let && in.X == fixture.Reg(int64(in.Dst)):
			return "a Let has its own register as its source"
		}
	}
	return ""
}

// tidied is Tidy's answer, of which all is looked at that can be seen without a run.
func tidied(t *testing.T, code program) program {
	t.Helper()
	tidy := tidies(t, code)
	if e, at := lang.Check(tidy); e != api.OK {
		t.Fatalf("Tidy(%q) is no program at %d: %+v", text(code), at, tidy)
	}
	if len(tidy) > len(code) {
		t.Fatalf("Tidy(%q) = %q: longer", text(code), text(tidy))
	}
	if what := untidy(tidy); what != "" {
		t.Fatalf("Tidy(%q) = %q: %s", text(code), text(tidy), what)
	}
	if again := tidies(t, tidy); len(again) != len(tidy) {
		t.Fatalf("Tidy(%q) = %q, and tidied again %q", text(code), text(tidy), text(again))
	}
	return tidy
}
