package pack_test

import (
	"bytes"
	"encoding/binary"
	"hash/crc32"
	"math"
	"slices"
	"testing"

	"braid/api"
	"braid/fixture"
	"braid/machine"
	"braid/pack"
)

const magic = "BRD1"

// example is the row of chapter 26's example 2, and its bytes.
func example() api.Row { return api.Row{Step: 5, Thread: 2, Kind: 5, Object: -1, Done: true} }

func exampleBytes() []byte { return []byte{4, 81, 1, 10, 10, 1} }

// sealed is a block of so many rows, so it says, with that body and the right sum.
func sealed(count int, body ...byte) []byte {
	b := append([]byte{byte(len(body) >> 8), byte(len(body)), byte(count)}, body...)
	return binary.LittleEndian.AppendUint32(b, crc32.ChecksumIEEE(b))
}

// packed lays blocks behind the four bytes.
func packed(blocks ...[]byte) []byte {
	return append([]byte(magic), slices.Concat(blocks...)...)
}

// packs is Pack's answer; what is handed in must be as it was.
func packs(t *testing.T, rows []api.Row) []byte {
	t.Helper()
	was := slices.Clone(rows)
	b := pack.Pack(rows)
	if !slices.Equal(rows, was) {
		t.Fatal("Pack has changed what it was given")
	}
	return b
}

// stands looks at the bytes of rows, and that they are what these bytes hold.
func stands(t *testing.T, rows []api.Row, want []byte) {
	t.Helper()
	if b := packs(t, rows); !bytes.Equal(b, want) {
		t.Errorf("Pack(%+v) = %v, want %v", rows, b, want)
	}
	holds(t, want, rows)
}

// sizes are those of the blocks of so many rows.
func sizes(n int) []int {
	var list []int
	for ; n > 64; n -= 64 {
		list = append(list, 64)
	}
	if n > 0 {
		list = append(list, n)
	}
	return list
}

// holds looks that bytes are taken, and hold rows.
func holds(t *testing.T, b []byte, want []api.Row) {
	t.Helper()
	was := slices.Clone(b)
	rows, k, e := pack.Unpack(b)
	if e != api.OK || k != len(sizes(len(want))) || !slices.Equal(rows, want) {
		t.Errorf("Unpack(%v) = %+v, %d, %d, want %+v", was, rows, k, e, want)
	}
	if list, e := pack.Blocks(b); e != api.OK || !slices.Equal(list, sizes(len(want))) {
		t.Errorf("Blocks(%v) = %v, %d, want %v", was, list, e, sizes(len(want)))
	}
	if saved := pack.Rescue(b); !slices.Equal(saved, want) {
		t.Errorf("Rescue(%v) = %+v, want %+v", was, saved, want)
	}
	if !bytes.Equal(b, was) {
		t.Errorf("bytes that were handed in are changed: %v, had been %v", b, was)
	}
}

// refused looks that bytes are not taken, because of their block k, and that the rows ahead of it are rescued.
func refused(t *testing.T, b []byte, k int, want api.Errno, ahead []api.Row) {
	t.Helper()
	was := slices.Clone(b)
	if rows, at, e := pack.Unpack(b); rows != nil || at != k || e != want {
		t.Errorf("Unpack(%v) = %+v, %d, %d, want no rows, %d, %d", was, rows, at, e, k, want)
	}
	if list, e := pack.Blocks(b); list != nil || e != want {
		t.Errorf("Blocks(%v) = %v, %d, want none, %d", was, list, e, want)
	}
	if saved := pack.Rescue(b); !slices.Equal(saved, ahead) {
		t.Errorf("Rescue(%v) = %+v, want %+v", was, saved, ahead)
	}
	if !bytes.Equal(b, was) {
		t.Errorf("bytes that were handed in are changed: %v, had been %v", b, was)
	}
}

// played gives the rows of a run, at least so many.
func played(t *testing.T, d *fixture.Dice, size int) []api.Row {
	t.Helper()
	var rows []api.Row
	for n := 0; len(rows) < size; n++ {
		res, e := machine.Run(fixture.Script(d, n%api.Managers, max(size, 40)))
		if e != api.OK {
			t.Fatalf("Run = %d", e)
		}
		rows = append(rows, res.Rows...)
	}
	return rows
}

// odd gives rows such as no run has: near ones, far ones, and often one that has much of the row ahead of it.
func odd(d *fixture.Dice, size int) []api.Row {
	rows := make([]api.Row, size)
	for i := range rows {
		if i > 0 && d.Below(3) > 0 {
			rows[i] = rows[i-1]
		}
		rows[i].Thread = fixture.Pick(d, 0, 1, 2, -1, -1, 63, 64, math.MaxInt, math.MinInt, int(d.Roll()))
		numbers, flags := numbersOf(rows[i]), flagsOf(rows[i])
		for range d.Below(8) {
			numbers[d.Below(18)] = number(d)
		}
		for range d.Below(3) {
			flags[d.Below(7)] = d.Below(2) == 0
		}
		rows[i] = rowOf(rows[i].Thread, numbers, flags)
	}
	return rows
}

// number gives one about each length of a varint, and any other.
func number(d *fixture.Dice) int64 {
	return fixture.Pick(d, fixture.Edge(d), int64(d.Roll()), int64(d.Roll()>>d.Below(64)), int64(d.Below(5)-2), 1<<d.Below(63), -1<<d.Below(64))
}
