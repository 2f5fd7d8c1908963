package meaning_test

import (
	"slices"
	"strings"
	"testing"

	"braid/api"
	"braid/fixture"
	"braid/meaning"
	"braid/source"
)

// noNames are texts that are no names.
var noNames = strings.Split("|if|release|else|while|abort|return|take|min|max|A|aB|1|1a|_|a_|a b| a|a |a\x00|ä|aä|-1|[0]|a;|abcdefghijklmnopq|"+strings.Repeat("a", 1000), "|")

// nearNames are names, however near to others they are.
var nearNames = strings.Split("a|z|i|f|ifs|fi|releas|released|mi|minn|max1|takes|t|a0|z9|abcdefghijklmnop|x1234567890abcde", "|")

// withObject are expressions in which an object is opened somewhere.
func withObject(t *testing.T) []source.Expr {
	t.Helper()
	var list []source.Expr
	for _, text := range []string{"[0]", "take [0]", "-[0]", "!take [0]", "1 + [0]", "[0] + 1", "1 || [0]", "0 && take [0]", "min(1, max(2, -[x]))", "a + a * (a - (a < take [99]))", "[[0]]"} {
		list = append(list, expr(t, text))
	}
	return append(list, nested(21, source.Not, one(source.Object, num(0))), nested(22, source.Taken, num(0)))
}

// An expression that source.Check refuses, ahead of all other errors.
func TestEvalChecks(t *testing.T) {
	ninth := num(0)
	for _, s := range fixture.Assigns(9) {
		ninth = two(ninth, "+", name(s.Word))
	}
	for _, c := range []struct {
		e    source.Expr
		want api.Errno
	}{
		{source.Expr{}, api.ErrTree}, {num(-1), api.ErrTree}, {name(""), api.ErrTree}, {name("if"), api.ErrTree}, {name("A"), api.ErrTree},
		{source.Expr{Kind: source.Not}, api.ErrTree}, {source.Expr{Kind: source.Number, Word: "x"}, api.ErrTree}, {source.Expr{Kind: 8}, api.ErrTree}, {source.Expr{Kind: -1}, api.ErrTree},
		{two(num(1), "=", num(2)), api.ErrTree}, {two(num(1), "", num(2)), api.ErrTree}, {source.Expr{Kind: source.Binary, Word: "+", Args: []source.Expr{num(1)}}, api.ErrTree},
		{nested(30, source.Not, num(-1)), api.ErrTree}, {one(source.Object, ninth), api.ErrNames}, {ninth, api.ErrNames}, {nested(30, source.Not, ninth), api.ErrNames},
		{nested(23, source.Not, num(0)), api.ErrDeep}, {nested(23, source.Object, num(0)), api.ErrDeep}, {nested(9, source.Not, tall(9)), api.ErrBig}, {one(source.Object, tall(9)), api.ErrBig},
	} {
		for _, names := range [][]string{nil, {}, {"a"}, {"if"}, {"a", "a"}} {
			for _, values := range [][]int64{nil, {}, {7}, {1, 2, 3}} {
				evalRefuses(t, c.e, names, values, c.want)
			}
		}
	}
}

// tall is an expression of 2^n - 1 nodes, n deep.
func tall(n int) source.Expr {
	if n == 1 {
		return num(1)
	}
	return two(tall(n-1), "+", tall(n-1))
}

// An object anywhere, whatever the names are.
func TestEvalObjects(t *testing.T) {
	for _, e := range withObject(t) {
		if why := source.Check(returns(e)); why != api.OK {
			t.Fatalf("Check of %+v: %d", e, why)
		}
		for _, names := range [][]string{nil, {"a", "x"}, {"if"}, {""}, {"a", "a"}} {
			for _, values := range [][]int64{nil, {7, 8}, {1, 2, 3}} {
				evalRefuses(t, e, names, values, api.ErrTree)
			}
		}
	}
}

// Names that may not be: alone, beside good ones, and whether they stand in the expression or not.
func TestEvalNames(t *testing.T) {
	for _, e := range []source.Expr{num(3), name("a"), expr(t, "a + b * 2"), nested(22, source.Not, num(0))} {
		for _, bad := range noNames {
			evalRefuses(t, e, []string{bad}, nil, api.ErrName)
			evalRefuses(t, e, []string{bad}, []int64{1}, api.ErrName)
			evalRefuses(t, e, []string{"a", "b", bad}, []int64{1, 2}, api.ErrName)
			evalRefuses(t, e, []string{bad, "a"}, []int64{1, 2}, api.ErrName)
		}
		for _, twice := range [][]string{{"a", "a"}, {"b", "a", "a"}, {"a", "b", "a"}, {"a", "b", "c", "b"}, {"unused", "unused"}} {
			for _, values := range [][]int64{nil, {1}, {1, 1}, {0, 0}} {
				evalRefuses(t, e, twice, values, api.ErrName)
			}
		}
		for names := range 4 {
			for values := names + 1; values < 7; values++ {
				evalRefuses(t, e, []string{"a", "b", "c"}[:names], make([]int64, values), api.ErrName)
			}
		}
	}
}

// Names with values, with none, and such as stand nowhere; as many names as one likes.
func TestEvalValues(t *testing.T) {
	e := expr(t, "a * 100 + b * 10 + c")
	names := []string{"a", "b", "c"}
	evals(t, e, nil, nil, 0)
	evals(t, e, names, nil, 0)
	evals(t, e, names, []int64{}, 0)
	evals(t, e, names, []int64{1}, 100)
	evals(t, e, names, []int64{1, 2}, 120)
	evals(t, e, names, []int64{1, 2, 3}, 123)
	evals(t, e, []string{"c", "a", "b"}, []int64{1, 2, 3}, 231)
	evals(t, e, []string{"c"}, []int64{7}, 7)
	evals(t, e, []string{"d", "b", "e"}, []int64{7, 8, 9}, 80)
	evals(t, num(7), []string{"x", "y"}, []int64{1, 2}, 7)
	for _, w := range nearNames {
		for _, n := range ends {
			evals(t, name(w), []string{w}, []int64{n}, n)
			evals(t, name(w), []string{"other", w}, []int64{1, n}, n)
			evals(t, name(w), []string{"other", w}, []int64{n}, 0)
			evals(t, name("other"), []string{w}, []int64{n}, 0)
		}
	}
	var many []string
	var values []int64
	for k := range 1000 {
		many = append(many, "v"+strings.Repeat("z", k/100)+string(rune('a'+k/10%10))+string(rune('0'+k%10)))
		values = append(values, int64(k))
	}
	for _, k := range []int{0, 1, 9, 10, 500, 999} {
		evals(t, name(many[k]), many, values, int64(k))
		evals(t, name(many[k]), many, values[:k], 0)
		evalRefuses(t, name(many[k]), append(slices.Clone(many), many[k]), values, api.ErrName)
	}
}

// Expressions of as many nodes and as deep as may be.
func TestEvalGreatest(t *testing.T) {
	evals(t, nested(22, source.Minus, name("a")), []string{"a"}, []int64{3}, 3)
	evals(t, nested(21, source.Minus, name("a")), []string{"a"}, []int64{3}, -3)
	evals(t, tall(8), nil, nil, 128)
	most := two(tall(8), "-", two(tall(7), "*", tall(7)))
	evals(t, most, nil, nil, 128-64*64) // 512 nodes, with the Return
	evalRefuses(t, one(source.Minus, most), nil, nil, api.ErrBig)
}

// 24.11: what a program without objects answers is Eval's of what it returns, behind Assigns of numbers.
func TestEvalIsRun(t *testing.T) {
	d := fixture.NewDice()
	seen := map[int64]int{}
	for range 4000 {
		e := fixture.Expr(&d, 1+d.Below(60), 0)
		if strings.Contains(text(returns(e)), "[") {
			evalRefuses(t, e, nil, nil, api.ErrTree)
			continue
		}
		names := []string{"d", "b", "a", "c", "zz"}[d.Below(2):]
		var values []int64
		var p prog
		for _, w := range names[:d.Below(len(names)+1)] {
			n := fixture.Pick(&d, int64(d.Below(5)), int64(d.Below(100)-50), fixture.Edge(&d))
			values = append(values, n)
			p = append(p, source.Stmt{Kind: source.Assign, Word: w, A: fixture.Number(n)})
		}
		want := fixture.Evaluated(e, names, values)
		evals(t, e, names, values, want)
		p = append(p, returns(e)...)
		if a := answer(t, p, objects{7}, given{use(1)}, 1000); !alike(a, alone(api.EndCommit, want, 0, 7)) {
			t.Fatalf("%s = %+v, want %d", asked(p, objects{7}, nil, 1000), a, want)
		}
		if t.Failed() {
			return
		}
		seen[min(max(want, -2), 2)]++
	}
	for n := int64(-2); n <= 2; n++ {
		if seen[n] < 40 {
			t.Errorf("%d was seen %d times", n, seen[n])
		}
	}
}

// Eval's answer does not hang on what was asked ahead.
func TestEvalKeepsNothing(t *testing.T) {
	e := name("a")
	for range 3 {
		evals(t, e, []string{"a"}, []int64{5}, 5)
		evals(t, e, nil, nil, 0)
		evalRefuses(t, e, []string{"a"}, []int64{5, 6}, api.ErrName)
		if n, why := meaning.Eval(e, []string{"a"}, nil); n != 0 || why != api.OK {
			t.Errorf("Eval = %d, %d", n, why)
		}
	}
}
