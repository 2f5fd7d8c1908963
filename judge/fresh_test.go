package judge_test

import (
	"runtime"
	"slices"
	"sync"
	"testing"
	"time"

	"braid/api"
	"braid/fixture"
	"braid/judge"
	"braid/machine"
)

// R3: no call changes what it is given, the room behind it too.
func TestHandedIn(t *testing.T) {
	for _, letGo := range []bool{false, true} {
		s, r := skew(t, letGo)
		s.Objects, r.Finals = append(make([]int64, 0, 9), s.Objects...), append(make([]api.Value, 0, 9), r.Finals...)
		first, _ := machine.First(s)
		first = append(make([]api.Value, 0, 9), first...)
		keptScript, kept, keptFirst := fixture.Copied(s), copied(r), slices.Clone(first)
		txs := txsOf(t, r.Rows)
		room, roomOfFirst := slices.Clone(r.Finals[:9]), slices.Clone(first[:9])
		for tx := -1; tx < 3; tx++ {
			judge.Serial(s, r)
			judge.Opaque(first, r.Rows)
			judge.Moments(first, r.Rows, tx)
			judge.Order(txs)
		}
		if !fixture.SameScript(s, keptScript) || !fixture.SameResult(r, kept) || !slices.Equal(first, keptFirst) {
			t.Error("what was handed in was changed")
		}
		if !slices.Equal(r.Finals[:9], room) || !slices.Equal(first[:9], roomOfFirst) || !slices.Equal(s.Objects[:9], []int64{1, 1, 0, 0, 0, 0, 0, 0, 0}) {
			t.Error("the room behind a list was written into")
		}
		for i, x := range txsOf(t, r.Rows) {
			y := txs[i]
			if x.Attempt != y.Attempt || x.Final != y.Final || x.End != y.End || x.Outcome != y.Outcome || !slices.Equal(x.Saws, y.Saws) || !slices.Equal(x.Writes, y.Writes) {
				t.Errorf("attempt %d was changed", i)
			}
		}
	}
}

// R3: what was answered is the caller's, and what was handed in is not kept.
func TestAnswersAreNew(t *testing.T) {
	s, r := skew(t, true)
	first, _ := machine.First(s)
	txs := txsOf(t, r.Rows)
	a, _ := judge.Order(txs)
	b, _ := judge.Order(txs)
	fixture.Full(a, 99)
	if !slices.Equal(b, []int{0, 1}) {
		t.Errorf("Order = %v", b)
	}
	a, _ = judge.Moments(first, r.Rows, 1)
	b, _ = judge.Moments(first, r.Rows, 1)
	fixture.Full(a, 99)
	if !slices.Equal(b, []int{1, 1, 1}) {
		t.Errorf("Moments = %v", b)
	}
	moments(t, first, r.Rows, 1, 1, 1, 1)
	ordered(t, txs, 0, 1)
	fixture.Full(r.Rows, stutter())
	fixture.Full(first, api.Value{Num: 55})
	fixture.Full(txs, api.Tx{})
	if !slices.Equal(b, []int{1, 1, 1}) {
		t.Errorf("Moments = %v", b)
	}
	s, r = skew(t, true)
	serial(t, s, r, good())
}

// R4: the same answers, however often they are asked for, and by how many at once.
func TestTheSameAgain(t *testing.T) {
	d := fixture.NewDice()
	var s machine.Script
	var r machine.Result
	var first []api.Value
	for n := 0; len(txsOf(t, r.Rows)) < 40; n++ {
		s = fixture.Thrown(&d, n)
		r, first = run(t, s)
	}
	spoilt := copied(r)
	for i := range spoilt.Rows { // many break; one of them is the first
		if i > 40 && i%3 == 0 && spoilt.Rows[i].Told {
			spoilt.Rows[i].Value.Num += 3
		}
	}
	type answers struct{ serial, opaque, spoiltSerial, spoiltOpaque api.Finding }
	ask := func() answers {
		var a answers
		a.serial, _ = judge.Serial(s, r)
		a.opaque, _ = judge.Opaque(first, r.Rows)
		a.spoiltSerial, _ = judge.Serial(s, spoilt)
		a.spoiltOpaque, _ = judge.Opaque(first, spoilt.Rows)
		return a
	}
	want := ask()
	if want.serial != good() || want.opaque != good() || want.spoiltSerial.Good || want.spoiltOpaque.Good {
		t.Fatalf("%+v", want)
	}
	var all sync.WaitGroup
	for range 8 {
		all.Go(func() {
			for range 40 {
				if got := ask(); got != want {
					t.Errorf("%+v, then %+v", want, got)
				}
			}
		})
	}
	all.Wait()
}

// R6: all workers have ended when a call has answered.
func TestNoWorkerIsLeft(t *testing.T) {
	var rows []api.Row
	for n := range 500 {
		rows = append(rows, sets(n%6, n%3, int64(n))...)
	}
	rows = laid(rows...)
	first := fixture.Numbers(1, 2, 3)
	before := runtime.NumGoroutine()
	for range 20 {
		opaque(t, first, rows, good())
		now := runtime.NumGoroutine()
		for range 50 { // one that has done its work may take a moment to be gone
			if now <= before {
				break
			}
			time.Sleep(time.Millisecond)
			now = runtime.NumGoroutine()
		}
		if now > before {
			t.Fatalf("%d goroutines, %d ahead of the call", now, before)
		}
	}
}
