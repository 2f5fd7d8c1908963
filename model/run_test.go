package model_test

import (
	"math"
	"strconv"
	"strings"
	"testing"

	"braid/api"
	"braid/fixture"
	"braid/lang"
	"braid/word"
)

// far are numbers that no fuel has.
var far = []int{math.MinInt, math.MinInt32, -10000, math.MaxInt32, math.MaxInt}

func slicesOf(n int, in lang.Instr) []lang.Instr {
	var code []lang.Instr
	for range n {
		code = append(code, in)
	}
	return code
}

func text(n int64) string { return strconv.FormatInt(n, 10) }

// Sixteen registers, all 0 at the beginning, each with its own number.
func TestRegisters(t *testing.T) {
	for r := range lang.MaxRegs {
		name := "r" + strconv.Itoa(r)
		commits(t, "done "+name, nil, nil, 0, nil)
		var all strings.Builder
		for k := range lang.MaxRegs {
			all.WriteString("let r" + strconv.Itoa(k) + " " + strconv.Itoa(100+k) + "\n")
		}
		commits(t, all.String()+"done "+name, nil, nil, int64(100+r), nil)
		commits(t, all.String()+"let "+name+" r3\ndone "+name, nil, nil, 103, nil)
		commits(t, all.String()+"get "+name+" @0\ndone "+name, objects{-7}, nil, -7, objects{-7})
		commits(t, all.String()+"take "+name+" @0\ndone "+name, objects{-7}, nil, -7, objects{-7})
	}
	for _, n := range []int64{0, 1, -1, math.MaxInt64, math.MinInt64} {
		commits(t, "let r1 "+text(n)+"\nlet r2 r1\ndone r2", nil, nil, n, nil)
		commits(t, "done "+text(n), nil, nil, n, nil)
		commits(t, "put @0 "+text(n), objects{5}, nil, 0, objects{n})
		commits(t, "get r1 @0\nput @1 r1\ndone r1", objects{n, 5}, nil, n, objects{n, n})
	}
}

// A bad object ends the run at each of the four codes, by number and by register, whatever was done ahead of it.
func TestBadObjects(t *testing.T) {
	for many := range api.MaxMap + 1 {
		over := make(objects, many)
		for x := range over {
			over[x] = int64(10 * x)
		}
		for _, bad := range badObjects(many) {
			if bad >= 0 && bad < int64(many) {
				continue
			}
			for _, form := range []string{"get r1 OBJ", "take r1 OBJ", "put OBJ 3", "put OBJ r2", "drop OBJ"} {
				direct := strings.Replace(form, "OBJ", "@"+text(bad), 1)
				runs(t, direct+"\ndone 9", over, nil, 50, alone(api.EndBad, 0, over, 1))
				through := "let r2 " + text(bad) + "\n" + strings.Replace(form, "OBJ", "@r2", 1)
				runs(t, through+"\ndone 9", over, nil, 50, alone(api.EndBad, 0, over, 2))
				runs(t, through, over, nil, 1, alone(api.EndNone, 0, over, 1))
				if many > 0 {
					runs(t, "put @0 77\nget r3 @0\n"+through+"\nput @0 78", over, nil, 50, alone(api.EndBad, 0, over, 4))
				}
			}
		}
	}
}

// Every object that there is can be named, by number and by register.
func TestGoodObjects(t *testing.T) {
	for many := 1; many <= api.MaxMap; many++ {
		for x := range many {
			over := make(objects, many)
			for k := range over {
				over[k] = int64(100 + k)
			}
			left := append(objects{}, over...)
			left[x] = -1
			n := strconv.Itoa(x)
			for _, obj := range []string{"@" + n, "@r9"} {
				commits(t, "let r9 "+n+"\nget r1 "+obj+"\ndone r1", over, nil, over[x], over)
				commits(t, "let r9 "+n+"\ntake r1 "+obj+"\ndone r1", over, nil, over[x], over)
				commits(t, "let r9 "+n+"\ndrop "+obj+"\ndone 4", over, nil, 4, over)
				commits(t, "let r9 "+n+"\nput "+obj+" -1\ndone 4", over, nil, 4, left)
			}
		}
	}
}

// An operand's register is looked at as the instruction is executed: the one that it fills may be the one that names.
func TestRegisterNamesAndIsFilled(t *testing.T) {
	commits(t, "get r0 @r0\nget r0 @r0\nget r0 @r0\ndone r0", objects{2, 7, 1}, nil, 7, objects{2, 7, 1})
	commits(t, "take r0 @r0\ntake r0 @r0\nput @r0 r0\ndone r0", objects{2, 7, 1}, nil, 1, objects{2, 1, 1})
	commits(t, "let r1 5\nadd r1 r1 r1\nsub r1 20 r1\ndone r1", nil, nil, 10, nil)
	commits(t, "let r1 1\nlet r1 r1\nput @r1 r1\ndone r1", objects{8, 9}, nil, 1, objects{8, 1})
}

// Reads of an own, a held, a released and a fresh object, with given values and without.
func TestReads(t *testing.T) {
	over := objects{50, 60, 70}
	g := given{use(1), {Value: 2}, use(3), use(4)}
	for _, c := range []struct {
		text           string
		plain, instead int64 // the result without given reads, and with these
	}{
		{"get r1 @0\ndone r1", 50, 1},
		{"get r1 @0\nget r1 @0\ndone r1", 50, 1},
		{"get r1 @0\nget r2 @1\ndone r2", 60, 60},
		{"get r1 @0\nget r1 @0\nget r2 @1\nget r3 @2\ndone r3", 70, 3},
		{"get r1 @0\nget r2 @1\nget r1 @0\ndone r1", 50, 1},
		{"get r1 @0\ndrop @0\nget r1 @0\ndone r1", 50, 50},
		{"get r1 @0\ndrop @0\nget r1 @0\ndrop @0\nget r1 @0\ndone r1", 50, 3},
		{"get r1 @0\ndrop @0\nget r1 @0\nget r1 @0\ndone r1", 50, 50},
		{"get r1 @0\ndrop @1\nget r1 @0\ndone r1", 50, 1},
		{"drop @0\nget r1 @0\ndone r1", 50, 1},
		{"take r1 @0\nget r1 @0\ndone r1", 50, 50},
		{"take r1 @0\nget r1 @1\ndone r1", 60, 1},
		{"put @0 9\nget r1 @0\ndone r1", 9, 9},
		{"put @0 9\nget r1 @0\nget r1 @1\ndone r1", 60, 1},
		{"get r1 @0\nput @0 9\nget r1 @0\ndone r1", 9, 9},
		{"get r1 @0\ntake r1 @0\nget r1 @0\ndone r1", 50, 50},
		{"get r1 @0\ntake r2 @0\nget r2 @1\nget r3 @2\ndone r3", 70, 3},
		{"get r1 @0\ndrop @0\ntake r1 @0\nget r1 @0\ndone r1", 50, 50},
		{"get r1 @0\nput @0 r1\nget r1 @0\ndone r1", 50, 1},
	} {
		a := answer(t, fixture.Program(t, c.text), over, nil, 50)
		b := answer(t, fixture.Program(t, c.text), over, g, 50)
		if a.Outcome != api.EndCommit || b.Outcome != api.EndCommit || a.Result != c.plain || b.Result != c.instead {
			t.Errorf("%q: %+v without and %+v with given reads, want %d and %d", c.text, a, b, c.plain, c.instead)
		}
	}
}

// Given values: with Use and without, fewer and more of them than reads.
func TestGiven(t *testing.T) {
	read3 := "get r1 @0\nget r2 @1\nget r3 @2\nmul r1 r1 10000\nmul r2 r2 100\nadd r1 r1 r2\nadd r1 r1 r3\ndone r1"
	over := objects{1, 2, 3}
	for _, c := range []struct {
		g    given
		want int64
	}{
		{nil, 10203},
		{given{}, 10203},
		{given{{}}, 10203},
		{given{{Value: 9}, {Value: 9}, {Value: 9}}, 10203},
		{given{use(7)}, 70203},
		{given{use(0)}, 203},
		{given{{}, use(7)}, 10703},
		{given{{Value: 5}, {Value: 5}, use(7)}, 10207},
		{given{use(7), use(8)}, 70803},
		{given{use(7), {}, use(9)}, 70209},
		{given{use(7), use(8), use(9)}, 70809},
		{given{use(7), use(8), use(9), use(10), {}}, 70809},
		{given{{}, {}, {}, use(10)}, 10203},
		{given{use(-7), use(-8), use(-9)}, -70809},
	} {
		commits(t, read3, over, c.g, c.want, over)
	}
	for _, n := range []int64{math.MinInt64, math.MaxInt64, 0} {
		commits(t, "get r1 @0\nput @1 r1\ndone r1", over, given{use(n)}, n, objects{1, n, 3})
	}
	// A given value may name an object, a bad one as well.
	commits(t, "get r1 @0\nget r2 @r1\ndone r2", over, given{use(2)}, 3, over)
	runs(t, "get r1 @0\nget r2 @r1\ndone r2", over, given{use(3)}, 9, alone(api.EndBad, 0, over, 2))
	// A read that ends the run is none: it takes no given value, and neither does what is not read.
	runs(t, "get r1 @3", over, given{use(0)}, 9, alone(api.EndBad, 0, over, 1))
}

// Opening for writing: of a fresh, a held, a released and an own object; never a given value.
func TestWrites(t *testing.T) {
	over := objects{50, 60}
	g := given{use(1), use(2)}
	for _, c := range []struct {
		text   string
		result int64
		left   objects
	}{
		{"take r1 @0\ndone r1", 50, objects{50, 60}},
		{"get r1 @0\ntake r1 @0\ndone r1", 50, objects{50, 60}},
		{"get r1 @0\ndrop @0\ntake r1 @0\ndone r1", 50, objects{50, 60}},
		{"take r1 @0\ntake r2 @0\ndone r2", 50, objects{50, 60}},
		{"put @0 9\ntake r1 @0\ndone r1", 9, objects{9, 60}},
		{"put @0 9\nput @0 8\ntake r1 @0\ndone r1", 8, objects{8, 60}},
		{"take r1 @0\nput @0 9\ntake r1 @0\ndone r1", 9, objects{9, 60}},
		{"put @0 9\ntake r1 @0\nput @0 r1\ntake r1 @0\ndone r1", 9, objects{9, 60}},
		{"put @1 r1\ndone 3", 3, objects{50, 0}},
		{"put @0 9\nput @1 8\nput @0 7\nput @1 6", 0, objects{7, 6}},
		{"put @0 50\nput @1 60", 0, objects{50, 60}},
		{"get r1 @0\nput @0 9\ndone r1", 1, objects{9, 60}},
		{"get r1 @0\nput @0 9\nget r1 @1\ndone r1", 2, objects{9, 60}},
		{"get r1 @0\nput @1 r1", 0, objects{50, 1}},
		{"take r1 @0\nget r2 @1\nput @0 r2\nput @1 r1", 0, objects{1, 50}},
		{"put @0 9\nget r1 @1\nput @1 r1\nget r2 @1\ndone r2", 1, objects{9, 1}},
	} {
		commits(t, c.text, over, g, c.result, c.left)
	}
	// What was read and not put is not left behind, though a given value was told.
	commits(t, "get r1 @0\nget r2 @1\ndone r2", over, g, 2, over)
}

// Drops: of a held object, of an own one, of one that was never read, and twice.
func TestDrops(t *testing.T) {
	over := objects{50, 60}
	g := given{use(1), use(2), use(3)}
	for _, c := range []struct {
		text   string
		result int64
		left   objects
	}{
		{"drop @0\ndrop @1\ndone 5", 5, over},
		{"drop @0\nget r1 @0\ndone r1", 1, over},
		{"get r1 @0\ndrop @0\nget r1 @0\ndone r1", 2, over},
		{"get r1 @0\ndrop @0\ndrop @0\nget r1 @0\ndone r1", 2, over},
		{"get r1 @0\ndrop @0\nget r1 @0\ndrop @0\nget r1 @0\ndone r1", 3, over},
		{"get r1 @0\nget r2 @1\ndrop @0\nget r1 @1\ndone r1", 2, over},
		{"get r1 @0\nget r2 @1\ndrop @1\nget r1 @1\ndone r1", 3, over},
		{"get r1 @0\ndrop @0\ndone r1", 1, over},
		{"put @0 9\ndrop @0\nget r1 @0\ndone r1", 9, objects{9, 60}},
		{"put @0 9\ndrop @0\ntake r1 @0\ndone r1", 9, objects{9, 60}},
		{"put @0 9\ndrop @0", 0, objects{9, 60}},
		{"take r1 @0\ndrop @0\nget r1 @0\ndone r1", 50, over},
		{"get r1 @0\nput @0 9\ndrop @0\nget r1 @0\ndone r1", 9, objects{9, 60}},
		{"get r1 @0\ndrop @0\nput @0 r1\ndrop @0\nget r2 @0\ndone r2", 1, objects{1, 60}},
	} {
		commits(t, c.text, over, g, c.result, c.left)
	}
}

// ends are numbers at which operators and relations turn.
var ends = []int64{math.MinInt64, math.MinInt64 + 1, -65, -64, -2, -1, 0, 1, 2, 3, 63, 64, 65, math.MaxInt64 - 1, math.MaxInt64}

// forms are the ways to write a pair of sources: what is let ahead of them, and the two themselves.
func forms(a, b int64) [][3]string {
	x, y := text(a), text(b)
	return [][3]string{
		{"", x, y},
		{"let r4 " + x + "\n", "r4", y},
		{"let r5 " + y + "\n", x, "r5"},
		{"let r4 " + x + "\nlet r5 " + y + "\n", "r4", "r5"},
	}
}

// Every operator over every pair of the ends, as registers and as numbers, held against whole numbers without bound.
func TestOperators(t *testing.T) {
	for op := word.Add; op <= word.Max; op++ {
		for _, a := range ends {
			for _, b := range ends {
				want := fixture.Applied(word.OpName(op), a, b)
				for _, f := range forms(a, b) {
					commits(t, f[0]+word.OpName(op)+" r15 "+f[1]+" "+f[2]+"\ndone r15", nil, nil, want, nil)
				}
			}
		}
	}
}

// Every relation likewise: the run jumps just where it holds.
func TestRelations(t *testing.T) {
	for rel := word.Eq; rel <= word.Ge; rel++ {
		for _, a := range ends {
			for _, b := range ends {
				want, count := int64(7), 2
				if fixture.Related(word.RelName(rel), a, b) {
					want = 8
				}
				for _, f := range forms(a, b) {
					code := f[0] + "if " + f[1] + " " + word.RelName(rel) + " " + f[2] + " yes\ndone 7\nyes: done 8"
					runs(t, code, nil, nil, 9, alone(api.EndCommit, want, nil, count+strings.Count(f[0], "\n")))
				}
			}
		}
	}
}

// Jumps ahead, back, to the own place, to the next one and to the program's end; the count tells how many were executed.
func TestJumps(t *testing.T) {
	for _, c := range []struct {
		text string
		want api.Alone
	}{
		{"goto e\nquit\ne: done 1", alone(api.EndCommit, 1, nil, 2)},
		{"goto e\ne: done 1", alone(api.EndCommit, 1, nil, 2)},
		{"goto e\nquit\ne:", alone(api.EndCommit, 0, nil, 2)},
		{"if 1 == 1 e\nquit\ne:", alone(api.EndCommit, 0, nil, 2)},
		{"if 1 != 1 e\nquit\ne:", alone(api.EndUser, 0, nil, 2)},
		{"if 1 != 1 e\ne:", alone(api.EndCommit, 0, nil, 2)},
		{"x: if r0 == 0 x", alone(api.EndNone, 0, nil, 60)},
		{"x: if r0 != 0 x", alone(api.EndCommit, 0, nil, 2)},
		{"goto a\nb: done 4\na: goto b", alone(api.EndCommit, 4, nil, 3)},
		{"let r1 3\nx: if r1 == 0 e\nsub r1 r1 1\ngoto x\ne: done r1", alone(api.EndCommit, 0, nil, 12)},
		{"a: goto b\nb: goto a", alone(api.EndNone, 0, nil, 60)},
		{"goto e\ndone 1\ndone 2\ndone 3\ne: goto f\ndone 4\nf: done 5", alone(api.EndCommit, 5, nil, 3)},
		{"e: quit\ngoto e", alone(api.EndUser, 0, nil, 1)},
		{"done 3\nquit", alone(api.EndCommit, 3, nil, 1)},
		{"let r1 5\nif r1 < 9 e\nlet r1 6\ne: let r2 r1\nif r2 < 5 e\ndone r2", alone(api.EndCommit, 5, nil, 5)},
	} {
		runs(t, c.text, nil, nil, 60, c.want)
	}
}

// The fuel at the run's Count, one below it, one above it, and at all the others.
func TestFuel(t *testing.T) {
	over := objects{5, 7}
	for _, c := range []struct {
		text string
		want api.Alone
	}{
		{"", alone(api.EndCommit, 0, over, 1)},
		{"quit", alone(api.EndUser, 0, over, 1)},
		{"done 4", alone(api.EndCommit, 4, over, 1)},
		{"drop @2", alone(api.EndBad, 0, over, 1)},
		{"get r1 @0", alone(api.EndCommit, 0, over, 2)},
		{"put @0 1\nput @1 2", alone(api.EndCommit, 0, objects{1, 2}, 3)},
		{"put @0 1\nput @1 2\nquit", alone(api.EndUser, 0, over, 3)},
		{"put @0 1\nput @1 2\nput @2 3", alone(api.EndBad, 0, over, 3)},
		{inc, alone(api.EndCommit, 6, objects{6, 7}, 4)},
		{"goto e\nquit\ne:", alone(api.EndCommit, 0, over, 2)},
		{"let r1 1\nx: add r1 r1 r1\nif r1 < 100 x\nput @1 r1\ndone r1", alone(api.EndCommit, 128, objects{5, 128}, 17)},
	} {
		for fuel := range c.want.Count {
			runs(t, c.text, over, nil, fuel, alone(api.EndNone, 0, over, fuel))
		}
		for _, fuel := range []int{c.want.Count, c.want.Count + 1, c.want.Count + 2, 9999, 10000} {
			runs(t, c.text, over, nil, fuel, c.want)
		}
	}
	// A run of just 10000 instructions, and one of one more.
	runs(t, "x: add r1 r1 1\nif r1 < 4999 x\nlet r2 1\ndone r1", nil, nil, 10000, alone(api.EndCommit, 4999, nil, 10000))
	runs(t, "x: add r1 r1 1\nif r1 < 4999 x\nlet r2 1\nlet r2 1\ndone r1", nil, nil, 10000, alone(api.EndNone, 0, nil, 10000))
}

// What a run that does not commit leaves: the map, and no result.
func TestNoCommitLeavesTheMap(t *testing.T) {
	over := objects{5, 7, 9}
	ahead := "get r1 @0\ntake r2 @1\nput @0 100\nput @1 101\nput @2 102\ndrop @0\n"
	runs(t, ahead+"quit", over, nil, 99, alone(api.EndUser, 0, over, 7))
	runs(t, ahead+"get r1 @3", over, nil, 99, alone(api.EndBad, 0, over, 7))
	runs(t, ahead+"put @3 4", over, nil, 99, alone(api.EndBad, 0, over, 7))
	runs(t, ahead+"x: goto x", over, nil, 99, alone(api.EndNone, 0, over, 99))
	runs(t, ahead+"done 3", over, nil, 6, alone(api.EndNone, 0, over, 6))
	runs(t, ahead+"done 3", over, nil, 7, alone(api.EndCommit, 3, objects{100, 101, 102}, 7))
}
