package model_test

import (
	"slices"
	"testing"

	"braid/api"
	"braid/fixture"
	"braid/lang"
	"braid/model"
)

// Programs thrown together, held against the plain run, at the fuel that they need, one below and one above it.
func TestThrownRuns(t *testing.T) {
	d := fixture.NewDice()
	seen := map[int]int{}
	for range 4000 {
		over, g := fixture.Map(&d), fixture.Given(&d)
		code := fixture.Code(&d, d.Below(fixture.Pick(&d, 4, 12, 30, 65)), len(over))
		first, _ := fixture.Alone(code, over, g, 300)
		for _, fuel := range []int{300, first.Count, first.Count - 1, first.Count + 1, d.Below(60)} {
			if fuel < 0 {
				continue
			}
			want, _ := fixture.Alone(code, over, g, fuel)
			if a := answer(t, code, over, g, fuel); !same(a, want) {
				text, _ := lang.Print(code)
				t.Fatalf("Run(%q, %v, %v, %d) = %+v, want %+v", text, over, g, fuel, a, want)
			}
			seen[want.Outcome]++
		}
	}
	for _, end := range []int{api.EndNone, api.EndCommit, api.EndUser, api.EndBad} {
		if seen[end] < 500 {
			t.Errorf("outcome %d was seen %d times", end, seen[end])
		}
	}
}

// Series thrown together, held against runs over what the ones ahead of them left.
func TestThrownSeries(t *testing.T) {
	d := fixture.NewDice()
	for range 300 {
		over, fuel := fixture.Map(&d), d.Below(60)
		var list progs
		var want []api.Alone
		on := over
		for range d.Below(8) {
			list = append(list, fixture.Code(&d, d.Below(12), len(over)))
			next, _ := fixture.Alone(list[len(list)-1], on, nil, fuel)
			want = append(want, next)
			on = next.Objects
		}
		series(t, list, over, fuel, want...)
		if t.Failed() {
			return
		}
	}
}

// P11.9: behind a commit each number is the last put's, or the map's.
func TestLastPutStays(t *testing.T) {
	d := fixture.NewDice()
	seen := 0
	for range 1000 {
		over := objects{int64(d.Below(9)), -5, 7}
		var code []lang.Instr
		left := slices.Clone(over)
		for range d.Below(20) {
			x, n := d.Below(3), int64(d.Below(100))
			switch d.Below(5) {
			case 0:
				code = append(code, lang.Instr{Code: lang.Get, Dst: d.Below(16), Obj: fixture.Num(int64(x))})
			case 1:
				code = append(code, lang.Instr{Code: lang.Take, Dst: d.Below(16), Obj: fixture.Num(int64(x))})
			case 2:
				code = append(code, lang.Instr{Code: lang.Drop, Obj: fixture.Num(int64(x))})
			default:
				code = append(code, lang.Instr{Code: lang.Put, Obj: fixture.Num(int64(x)), X: fixture.Num(n)})
				left[x] = n
				seen++
			}
		}
		if a := answer(t, code, over, nil, 100); !same(a, alone(api.EndCommit, 0, left, len(code)+1)) {
			t.Fatalf("Run(%+v, %v) = %+v, want %v", code, over, a, left)
		}
	}
	if seen < 1000 {
		t.Errorf("%d puts", seen)
	}
}

// P11.9 too: without a Put that is executed the map stays, whatever is given.
func TestWithoutPutTheMapStays(t *testing.T) {
	d := fixture.NewDice()
	for range 1500 {
		over, g := fixture.Map(&d), fixture.Given(&d)
		code := slices.DeleteFunc(fixture.Code(&d, d.Below(20), len(over)), func(in lang.Instr) bool { return in.Code == lang.Put })
		for k := range code {
			code[k].To = min(code[k].To, len(code))
		}
		if a := answer(t, code, over, g, 200); !slices.Equal(a.Objects, over) {
			t.Fatalf("Run(%+v, %v, %v) = %+v", code, over, g, a)
		}
	}
}

// P11.10: a run that ends with Count n ends so with every fuel from n on, and with none below n.
func TestFuelsAgree(t *testing.T) {
	d := fixture.NewDice()
	seen := 0
	for range 400 {
		over, g := fixture.Map(&d), fixture.Given(&d)
		code := fixture.Code(&d, d.Below(20), len(over))
		whole := answer(t, code, over, g, api.MaxFuel)
		if whole.Outcome == api.EndNone {
			continue
		}
		seen++
		for fuel := range min(whole.Count, 100) + 20 {
			want := whole
			if fuel < whole.Count {
				want = alone(api.EndNone, 0, over, fuel)
			}
			if a := answer(t, code, over, g, fuel); !same(a, want) {
				t.Fatalf("Run(%+v, %v, %v, %d) = %+v, want %+v", code, over, g, fuel, a, want)
			}
		}
	}
	if seen < 200 {
		t.Errorf("%d runs ended", seen)
	}
}

// P11.11: where lang.Longest is n, every fuel from n + 1 on is enough, on every map.
func TestLongestIsEnough(t *testing.T) {
	d := fixture.NewDice()
	seen := 0
	for range 3000 {
		many := d.Below(4)
		code := fixture.Code(&d, d.Below(20), many)
		n, e := lang.Longest(code)
		if e != api.OK {
			continue
		}
		seen++
		for range 3 {
			over := fixture.Map(&d)
			for _, fuel := range []int{n + 1, n + 2, api.MaxFuel} {
				if a := answer(t, code, over, nil, fuel); a.Outcome == api.EndNone || a.Count > n+1 {
					t.Fatalf("Run(%+v, %v, nil, %d) = %+v, and Longest is %d", code, over, fuel, a, n)
				}
			}
		}
	}
	if seen < 300 {
		t.Errorf("%d programs have a longest walk", seen)
	}
}

// P11.12: giving what would be read changes nothing.
func TestGivingWhatIsRead(t *testing.T) {
	d := fixture.NewDice()
	seen := 0
	for range 1500 {
		over := fixture.Map(&d)
		code := fixture.Code(&d, d.Below(20), len(over))
		plain := answer(t, code, over, nil, 200)
		g := readsOf(code, over, 200)
		seen += len(g)
		for k := range g {
			if d.Below(3) == 0 {
				g[k] = api.Given{Value: 12345}
			}
		}
		if a := answer(t, code, over, g, 200); !same(a, plain) {
			t.Fatalf("Run(%+v, %v, %v) = %+v, and %+v without given reads", code, over, g, a, plain)
		}
	}
	if seen < 1000 {
		t.Errorf("%d reads", seen)
	}
}

// readsOf are the numbers that a run without given reads reads, each with Use.
func readsOf(code []lang.Instr, over objects, fuel int) given {
	var g given
	_, past := fixture.Alone(code, over, nil, fuel)
	for _, h := range past.All {
		if h.What == "read" {
			g = append(g, use(over[h.Object]))
		}
	}
	return g
}

// Runs beside one another share nothing.
func TestRunsBesideOneAnother(t *testing.T) {
	d := fixture.NewDice()
	over := objects{1, 2, 3}
	g := given{use(4), {}, use(6)}
	var list progs
	for range 40 {
		list = append(list, fixture.Code(&d, 20, 3))
	}
	told := make(chan api.Alone)
	for _, code := range list {
		own := make(chan api.Alone, 1)
		go func() {
			a, _ := model.Run(code, over, g, 200)
			own <- a
		}()
		go func() {
			a, _ := model.Run(code, over, g, 200)
			if b := <-own; !same(a, b) {
				a.Outcome = -1
			}
			told <- a
		}()
	}
	for range list {
		if a := <-told; a.Outcome < 0 {
			t.Errorf("two runs of one program differ")
		}
	}
}
