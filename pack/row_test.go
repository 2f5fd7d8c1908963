package pack_test

import (
	"bytes"
	"math"
	"slices"
	"testing"

	"braid/api"
	"braid/fixture"
	"braid/pack"
)

// varints are numbers and what stands for their zigzags, by hand.
var varints = []struct {
	x int64
	b []byte
}{
	{0, []byte{0}}, {-1, []byte{1}}, {1, []byte{2}}, {-2, []byte{3}}, {2, []byte{4}},
	{63, []byte{126}}, {-64, []byte{127}}, {64, []byte{128, 1}}, {-65, []byte{129, 1}}, {150, []byte{172, 2}},
	{8191, []byte{254, 127}}, {-8192, []byte{255, 127}}, {8192, []byte{128, 128, 1}},
	{1 << 30, []byte{128, 128, 128, 128, 8}}, {-1 << 31, []byte{255, 255, 255, 255, 15}}, {1 << 31, []byte{128, 128, 128, 128, 16}},
	{1<<62 - 1, []byte{254, 255, 255, 255, 255, 255, 255, 255, 127}}, {-1 << 62, []byte{255, 255, 255, 255, 255, 255, 255, 255, 127}},
	{1 << 62, []byte{128, 128, 128, 128, 128, 128, 128, 128, 128, 1}},
	{math.MaxInt64, []byte{254, 255, 255, 255, 255, 255, 255, 255, 255, 1}}, {math.MinInt64, []byte{255, 255, 255, 255, 255, 255, 255, 255, 255, 1}},
}

// P26.2: the numbers of a Thread and of a difference.
func TestVarints(t *testing.T) {
	for _, v := range varints {
		stands(t, []api.Row{{Thread: int(v.x)}}, packed(sealed(1, append(slices.Clone(v.b), 0, 0)...)))
		if v.x != 0 {
			stands(t, []api.Row{{Seen: v.x}}, packed(sealed(1, append([]byte{0, 128, 8, 0}, v.b...)...)))
		}
	}
}

// A mask is no zigzag: one, two and three bytes of it.
func TestMasks(t *testing.T) {
	for bit := range 18 {
		var numbers [18]int64
		numbers[bit] = 1
		mask := [][]byte{{1 << bit}, {128, 1 << max(bit-7, 0)}, {128, 128, 1 << max(bit-14, 0)}}[bit/7]
		stands(t, []api.Row{rowOf(0, numbers, [7]bool{})}, packed(sealed(1, slices.Concat([]byte{0}, mask, []byte{0, 2})...)))
	}
	var all [18]int64
	for i := range all {
		all[i] = int64(i + 1)
	}
	stands(t, []api.Row{rowOf(0, all, [7]bool{})},
		packed(sealed(1, 0, 255, 255, 15, 0, 2, 4, 6, 8, 10, 12, 14, 16, 18, 20, 22, 24, 26, 28, 30, 32, 34, 36)))
}

// P26.4: each field alone differs from the row compared with, and by how much.
func TestEachField(t *testing.T) {
	d := fixture.NewDice()
	for bit := range 18 {
		for range 40 {
			first := odd(&d, 1)[0]
			numbers := numbersOf(first)
			was := numbers[bit]
			numbers[bit] = number(&d)
			second := rowOf(first.Thread, numbers, flagsOf(first))
			body := plainBody([]api.Row{first})
			line := plainVarint(plainZigzag(int64(first.Thread)))
			if numbers[bit] == was {
				line = append(line, 0, flagByte(first))
			} else {
				line = slices.Concat(line, plainVarint(1<<bit), []byte{flagByte(first)}, plainVarint(plainZigzag(numbers[bit]-was)))
			}
			stands(t, []api.Row{first, second}, packed(sealed(2, append(body, line...)...)))
		}
	}
}

func flagByte(r api.Row) byte {
	var all byte
	for i, up := range flagsOf(r) {
		if up {
			all += []byte{1, 2, 4, 8, 16, 32, 64}[i]
		}
	}
	return all
}

// P26.4: the flags are the row's own, whatever the row compared with has.
func TestFlags(t *testing.T) {
	for i, r := range []api.Row{
		{Done: true}, {Abort: true}, {Timeout: true}, {Told: true}, {Puts: true}, {Value: api.Value{Dead: true}}, {Put: api.Value{Dead: true}},
	} {
		stands(t, []api.Row{r}, packed(sealed(1, 0, 0, 1<<i)))
		stands(t, []api.Row{r, r, {}, r}, packed(sealed(4, 0, 0, 1<<i, 0, 0, 1<<i, 0, 0, 0, 0, 0, 1<<i)))
	}
	all := api.Row{Done: true, Abort: true, Timeout: true, Told: true, Puts: true, Value: api.Value{Dead: true}, Put: api.Value{Dead: true}}
	stands(t, []api.Row{all, {}, all}, packed(sealed(3, 0, 0, 127, 0, 0, 0, 0, 0, 127)))
	for n := range 128 {
		var flags [7]bool
		for i := range flags {
			flags[i] = n>>i&1 == 1
		}
		stands(t, []api.Row{all, rowOf(0, [18]int64{}, flags)}, packed(sealed(2, 0, 0, 127, 0, 0, byte(n))))
	}
}

// P26.4: differences wrap as int64 sums do.
func TestWrapped(t *testing.T) {
	for _, c := range []struct {
		from, to int64
		b        []byte
	}{
		{math.MaxInt64, math.MinInt64, []byte{2}},
		{math.MinInt64, math.MaxInt64, []byte{1}},
		{-1, math.MaxInt64, []byte{255, 255, 255, 255, 255, 255, 255, 255, 255, 1}},
		{1, math.MinInt64, []byte{254, 255, 255, 255, 255, 255, 255, 255, 255, 1}},
		{math.MinInt64, 0, []byte{255, 255, 255, 255, 255, 255, 255, 255, 255, 1}},
	} {
		for bit := range 18 {
			var from, to [18]int64
			from[bit], to[bit] = c.from, c.to
			body := plainBody([]api.Row{rowOf(3, from, [7]bool{})})
			body = slices.Concat(body, []byte{6}, plainVarint(1<<bit), []byte{0}, c.b)
			stands(t, []api.Row{rowOf(3, from, [7]bool{}), rowOf(3, to, [7]bool{})}, packed(sealed(2, body...)))
		}
	}
}

// P26.4: each thread's rows are compared with that thread's last one, not with an earlier one, nor with another's.
func TestThreadsInTurns(t *testing.T) {
	at := func(thread, step int) api.Row { return api.Row{Thread: thread, Step: step} }
	stands(t, []api.Row{at(0, 5), at(1, 7), at(0, 6), at(1, 9), at(0, 6), at(-1, 6), at(1, 0)}, packed(sealed(7,
		0, 1, 0, 10,
		2, 1, 0, 14,
		0, 1, 0, 2,
		2, 1, 0, 4,
		0, 0, 0,
		1, 1, 0, 12,
		2, 1, 0, 17)))
	low, high := int64(math.MinInt64), int64(math.MaxInt64)
	stands(t, []api.Row{at(int(low), 5), at(int(high), 7), at(int(low), 5), at(int(high), 7)}, packed(sealed(4, slices.Concat(
		plainVarint(plainZigzag(low)), []byte{1, 0, 10}, plainVarint(plainZigzag(high)), []byte{1, 0, 14},
		plainVarint(plainZigzag(low)), []byte{0, 0}, plainVarint(plainZigzag(high)), []byte{0, 0})...)))
}

// P26.4: the first row of a thread in a block is compared with the zero row, whatever stands in the blocks ahead.
func TestFirstOfItsBlock(t *testing.T) {
	first, again := []byte{4, 81, 1, 10, 10, 1}, []byte{4, 0, 1}
	whole := append(slices.Clone(first), slices.Repeat(again, 63)...)
	stands(t, slices.Repeat([]api.Row{example()}, 64), packed(sealed(64, whole...)))
	stands(t, slices.Repeat([]api.Row{example()}, 65), packed(sealed(64, whole...), sealed(1, first...)))
	stands(t, slices.Repeat([]api.Row{example()}, 130), packed(sealed(64, whole...), sealed(64, whole...), sealed(2, append(first, again...)...)))
}

// P26.5: as many rows as blocks hold, one less and one more.
func TestNumbersOfRows(t *testing.T) {
	d := fixture.NewDice()
	rows := append(played(t, &d, 150)[:150], odd(&d, 150)...)
	for _, n := range []int{0, 1, 2, 63, 64, 65, 127, 128, 129, 192, 193, 300} {
		stands(t, rows[:n], plainPack(rows[:n]))
		stands(t, rows[300-n:], plainPack(rows[300-n:]))
	}
	for n, want := range map[int][]int{1: {1}, 63: {63}, 64: {64}, 65: {64, 1}, 128: {64, 64}, 129: {64, 64, 1}} {
		if list, e := pack.Blocks(pack.Pack(rows[:n])); !slices.Equal(list, want) || e != api.OK {
			t.Errorf("Blocks of %d rows = %v, %d", n, list, e)
		}
	}
}

// P26.5: rows such as no run has, each field at its ends and all at once.
func TestAnyRows(t *testing.T) {
	var rows []api.Row
	for _, n := range []int64{math.MinInt64, math.MaxInt64, -1, 0} {
		var all [18]int64
		for i := range all {
			all[i] = n
		}
		rows = append(rows, rowOf(int(n), all, [7]bool{true, true, true, true, true, true, true}), rowOf(0, all, [7]bool{}))
	}
	stands(t, rows, plainPack(rows))
	// no body is longer than that of such rows: thirteen bytes and a hundred and eighty for each
	long := make([]api.Row, 64)
	for i := range long {
		var all [18]int64
		for k := range all {
			all[k] = math.MinInt64 * int64((i+1)%2)
		}
		long[i] = rowOf(math.MinInt, all, [7]bool{})
	}
	b := packs(t, long)
	if want := 64 * (10 + 3 + 1 + 180); int(b[4])<<8+int(b[5]) != want || !bytes.Equal(b, plainPack(long)) {
		t.Errorf("a body of %d bytes, want %d", int(b[4])<<8+int(b[5]), want)
	}
	holds(t, b, long)
}
