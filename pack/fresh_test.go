package pack_test

import (
	"bytes"
	"runtime"
	"slices"
	"testing"

	"braid/api"
	"braid/fixture"
	"braid/pack"
)

// some gives bytes of each kind: good ones of several lengths, and one for each error.
func some(t *testing.T) [][]byte {
	t.Helper()
	d := fixture.NewDice()
	rows := append(played(t, &d, 100)[:100], odd(&d, 60)...)
	whole, _ := fullBlock()
	wrong := slices.Clone(whole)
	wrong[9]++
	return [][]byte{
		nil, {}, []byte("BRD"), []byte("BRD2...."), packs(t, nil), packs(t, rows[:1]), packs(t, rows[:64]), packs(t, rows), packed(whole, wrong, whole),
		packed(whole, whole[:9]), packed(sealed(1, exampleBytes()...), whole), packed(sealed(65)), packed(sealed(1, 4, 128, 0, 1)),
	}
}

// R3: what is handed in stays as it was, the room behind it too; what stands there is not read.
func TestHandedIn(t *testing.T) {
	for _, b := range some(t) {
		own := fixture.Roomy(b, 77)
		kept := slices.Clone(own[:cap(own)])
		for range 2 {
			pack.Sum(own)
			pack.Unpack(own)
			pack.Blocks(own)
			pack.Rescue(own)
		}
		if !bytes.Equal(own[:cap(own)], kept) {
			t.Errorf("%v has been changed: %v", kept, own[:cap(own)])
		}
		sameRead(t, own)
		if sum := pack.Sum(own); sum != plainSum(b) {
			t.Errorf("Sum(%v) = %d", b, sum)
		}
	}
	d := fixture.NewDice()
	for _, n := range []int{0, 1, 63, 64, 65, 130} {
		rows := odd(&d, n)
		own := fixture.Roomy(rows, example())
		kept := slices.Clone(own[:cap(own)])
		for range 2 {
			pack.Pack(own)
		}
		if !slices.Equal(own[:cap(own)], kept) || !bytes.Equal(pack.Pack(own), plainPack(rows)) {
			t.Errorf("%d rows with room behind them", n)
		}
	}
}

// R3: a block's bytes are read where they stand, and what follows stays: each beginning of bytes, in their own memory.
func TestCutInPlace(t *testing.T) {
	d := fixture.NewDice()
	b := packs(t, played(t, &d, 130)[:130])
	kept := slices.Clone(b)
	for n := range b {
		pack.Unpack(b[:n])
		pack.Blocks(b[:n])
		pack.Rescue(b[:n])
		pack.Sum(b[:n])
	}
	if !bytes.Equal(b, kept) {
		t.Error("bytes behind those that were handed in are changed")
	}
}

// R3: what is answered is the caller's, its spare room too.
func TestAnswersAreNew(t *testing.T) {
	d := fixture.NewDice()
	rows := odd(&d, 130)
	want := slices.Clone(rows)
	b, other := packs(t, rows), packs(t, rows)
	fixture.Full(b, 99)
	if !bytes.Equal(other, plainPack(want)) || !bytes.Equal(packs(t, rows), other) {
		t.Error("two answers of Pack share memory")
	}
	fixture.Full(packs(t, nil), 99) // the four bytes are handed out anew each time
	if b := packs(t, nil); string(b) != magic {
		t.Errorf("Pack(nil) = %v", b)
	}
	first, _, _ := pack.Unpack(other)
	second, _, _ := pack.Unpack(other)
	third := pack.Rescue(other)
	list, _ := pack.Blocks(other)
	fixture.Full(first, example())
	fixture.Full(list, 99)
	if !slices.Equal(second, want) || !slices.Equal(third, want) || !bytes.Equal(other, plainPack(want)) {
		t.Error("two answers share memory")
	}
	fixture.Full(third, example())
	holds(t, other, want)
	if !slices.Equal(second, want) {
		t.Error("Rescue's answer and Unpack's share memory")
	}
}

// R3: what was handed in is not kept, and may be changed later.
func TestNothingIsKept(t *testing.T) {
	d := fixture.NewDice()
	rows := odd(&d, 130)
	want := slices.Clone(rows)
	b := packs(t, rows)
	fixture.Full(rows, example())
	if !bytes.Equal(b, plainPack(want)) {
		t.Error("Pack has kept its rows")
	}
	kept := slices.Clone(b)
	first, _, _ := pack.Unpack(b)
	saved := pack.Rescue(b)
	list, _ := pack.Blocks(b)
	fixture.Full(b, 99)
	if !slices.Equal(first, want) || !slices.Equal(saved, want) || !slices.Equal(list, []int{64, 64, 2}) {
		t.Error("bytes that were handed in are kept")
	}
	holds(t, kept, want)
}

// R4, R6: the same answers, however often they are asked for and by how many at once, and no goroutine is left.
func TestTheSameAgain(t *testing.T) {
	d := fixture.NewDice()
	lists := [][]api.Row{nil, odd(&d, 1), odd(&d, 64), odd(&d, 70), played(t, &d, 130)}
	all := some(t)
	ask := func() {
		for _, rows := range lists {
			stands(t, rows, plainPack(rows))
		}
		for _, b := range all {
			sameRead(t, b)
			if sum := pack.Sum(b); sum != plainSum(b) {
				t.Errorf("Sum(%v) = %d", b, sum)
			}
		}
	}
	fixture.OverAgain(t, runtime.NumGoroutine, 5, ask)
}
