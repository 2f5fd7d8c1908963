package pack_test

import (
	"slices"
	"testing"

	"braid/api"
	"braid/fixture"
	"braid/pack"
)

// fullBlock is a block of 64 times the example's row, and these rows.
func fullBlock() ([]byte, []api.Row) {
	body := append(exampleBytes(), slices.Repeat([]byte{4, 0, 1}, 63)...)
	return sealed(64, body...), slices.Repeat([]api.Row{example()}, 64)
}

// refusedBehind looks that a block may not be: alone, behind a full one, behind two, and whatever stands behind it.
func refusedBehind(t *testing.T, b []byte, want api.Errno) {
	t.Helper()
	whole, rows := fullBlock()
	refused(t, packed(b), 0, want, nil)
	refused(t, packed(whole, b), 1, want, rows)
	refused(t, packed(whole, whole, b), 2, want, append(rows, rows...))
	if want == api.ErrBlock {
		refused(t, packed(b, b), 0, want, nil)
		refused(t, packed(whole, b, whole), 1, want, rows)
		refused(t, packed(b, []byte{0}), 0, want, nil)
	}
}

// ErrMagic: fewer than four bytes, and four that are others, ahead of all that may be wrong behind them.
func TestMagic(t *testing.T) {
	whole, _ := fullBlock()
	for n := range 4 {
		refused(t, []byte(magic)[:n], 0, api.ErrMagic, nil)
	}
	for i := range 4 {
		for bit := range 8 {
			for _, behind := range [][]byte{nil, {0}, whole, {0, 0, 0, 1, 2, 3, 4}} {
				b := packed(behind)
				b[i] ^= 1 << bit
				refused(t, b, 0, api.ErrMagic, nil)
			}
		}
	}
	for _, text := range []string{"DRB1", "brd1", " BRD1", "1DRB", "BRD", "BRD2", "BR1D", "\x00\x00\x00\x00", "x"} {
		refused(t, []byte(text), 0, api.ErrMagic, nil)
	}
	refused(t, append([]byte("x"), packed(whole)...), 0, api.ErrMagic, nil)
	refused(t, packed(whole)[1:], 0, api.ErrMagic, nil)
}

// ErrEnd: nothing may stand behind a block of fewer than 64 rows, not even what would be a block, or might not be one.
func TestBehindTheLast(t *testing.T) {
	whole, rows := fullBlock()
	small := sealed(1, exampleBytes()...)
	one := []api.Row{example()}
	most := sealed(63, append(exampleBytes(), slices.Repeat([]byte{4, 0, 1}, 62)...)...)
	for _, behind := range [][]byte{{0}, {0, 0}, {0, 0, 0}, {0, 0, 0, 0, 0, 0, 0}, small, whole, sealed(0), sealed(65), append(small, 0), {255, 255, 255}} {
		refused(t, packed(small, behind), 1, api.ErrEnd, one)
		refused(t, packed(most, behind), 1, api.ErrEnd, rows[:63])
		refused(t, packed(whole, small, behind), 2, api.ErrEnd, append(slices.Clone(rows), example()))
	}
	holds(t, packed(whole), rows)
	holds(t, packed(whole, small), append(slices.Clone(rows), example()))
	holds(t, packed(whole, whole), slices.Concat(rows, rows))
}

// ErrEnd: a head, a body and a sum that are cut short at every place, ahead of a block that may not be.
func TestCutShort(t *testing.T) {
	spoilt := sealed(1, exampleBytes()...)
	spoilt[4]++
	for _, b := range [][]byte{sealed(1, exampleBytes()...), sealed(0), sealed(65), sealed(1, 128), spoilt} {
		for n := 1; n < len(b); n++ {
			refusedBehind(t, b[:n], api.ErrEnd)
		}
	}
	long := append([]byte{255, 255, 1}, make([]byte, 65535+3)...)
	for _, n := range []int{3, 4, 64, 256, 65536, len(long)} {
		refusedBehind(t, long[:n], api.ErrEnd)
	}
	refusedBehind(t, append(long, 0), api.ErrBlock)
}

// The higher byte of the length comes first.
func TestLength(t *testing.T) {
	d := fixture.NewDice()
	rows := odd(&d, 30)
	body := plainBody(rows)
	if len(body) < 300 {
		t.Fatalf("a body of %d bytes", len(body))
	}
	b := packed(sealed(30, body...))
	holds(t, b, rows)
	turned := slices.Clone(b)
	turned[4], turned[5] = b[5], b[4]
	if _, _, e := pack.Unpack(turned); e == api.OK {
		t.Error("a length whose lower byte comes first is taken")
	}
}

// ErrBlock: a sum that is another, by its bytes' order too.
func TestWrongSum(t *testing.T) {
	good := sealed(1, exampleBytes()...)
	for i := 2; i < len(good); i++ {
		for bit := range 8 {
			spoilt := slices.Clone(good)
			spoilt[i] ^= 1 << bit
			refusedBehind(t, spoilt, api.ErrBlock)
		}
	}
	turned := slices.Clone(good)
	slices.Reverse(turned[len(turned)-4:])
	refusedBehind(t, turned, api.ErrBlock)
	refusedBehind(t, append(slices.Clone(good[:len(good)-4]), 0, 0, 0, 0), api.ErrBlock)
}

// The sum is that of the head too, not of the body alone.
func TestSumOfTheHead(t *testing.T) {
	body := exampleBytes()
	sum := plainSum(body)
	refusedBehind(t, slices.Concat([]byte{0, 6, 1}, body, []byte{byte(sum), byte(sum >> 8), byte(sum >> 16), byte(sum >> 24)}), api.ErrBlock)
}

// ErrBlock, with a sum that is right: a number of rows that may not be.
func TestWrongCounts(t *testing.T) {
	for _, count := range []int{0, 65, 66, 128, 192, 255} {
		refusedBehind(t, sealed(count), api.ErrBlock)
		refusedBehind(t, sealed(count, make([]byte, 3*count)...), api.ErrBlock)
		refusedBehind(t, sealed(count, exampleBytes()...), api.ErrBlock)
	}
	for count := 1; count <= 64; count++ {
		refusedBehind(t, sealed(count), api.ErrBlock)
		refusedBehind(t, sealed(count, make([]byte, 3*count-1)...), api.ErrBlock)
		refusedBehind(t, sealed(count, make([]byte, 3*count+1)...), api.ErrBlock)
		holds(t, packed(sealed(count, make([]byte, 3*count)...)), make([]api.Row, count))
	}
}

// ErrBlock, with a sum that is right: a body that is not just the bytes of so many rows.
func TestWrongBodies(t *testing.T) {
	same := func(n int, c byte) []byte { return slices.Repeat([]byte{c}, n) }
	for _, body := range [][]byte{
		{}, {0}, {0, 0}, {4}, {4, 81}, {4, 81, 1}, {4, 81, 1, 10}, {4, 81, 1, 10, 10}, // something is missing
		{4, 81, 1, 10, 10, 1, 0}, {0, 0, 0, 0}, {0, 0, 0, 0, 0, 0}, {4, 81, 1, 10, 10, 1, 4, 0, 1}, // something is left
		{128}, {255}, {4, 128}, {4, 81, 1, 10, 10, 129}, same(65535, 128), same(300, 255), // a varint without an end
		{132, 0, 81, 1, 10, 10, 1}, {4, 209, 0, 1, 10, 10, 1}, {4, 81, 1, 138, 0, 10, 1}, {4, 81, 1, 10, 10, 129, 0}, {132, 128, 0, 0, 0}, {128, 0, 0, 0}, // longer than it must be
		slices.Concat(same(9, 128), []byte{0, 0, 0}), slices.Concat(same(9, 255), []byte{0, 0, 0}), slices.Concat(same(10, 128), []byte{0, 0, 0}), // of ten and eleven bytes too
		slices.Concat(same(10, 255), []byte{1, 0, 0}), slices.Concat(same(10, 128), []byte{1, 0, 0}), slices.Concat(same(20, 128), []byte{1, 0, 0}),
		slices.Concat(same(9, 255), []byte{2, 0, 0}), slices.Concat(same(9, 128), []byte{2, 0, 0}), slices.Concat(same(9, 255), []byte{3, 0, 0}), slices.Concat(same(9, 255), []byte{127, 0, 0}), // above 64 bits
		{0, 128, 128, 16, 0}, {0, 128, 128, 16, 0, 2}, {0, 129, 128, 16, 0, 2}, {0, 129, 128, 16, 0, 2, 2}, {0, 128, 128, 32, 0, 2}, {0, 128, 128, 128, 1, 0, 2}, // a bit of the mask from 18 on
		slices.Concat([]byte{0}, same(9, 255), []byte{1, 0}, same(64, 2)), slices.Concat([]byte{0}, same(9, 255), []byte{1, 0}, same(18, 2)),
		slices.Concat([]byte{0}, same(9, 128), []byte{1, 0}), slices.Concat([]byte{0}, same(9, 128), []byte{1, 0, 2}), slices.Concat([]byte{0}, same(9, 128), []byte{2, 0}),
		{0, 1, 0, 0}, {4, 81, 1, 10, 0, 1}, {4, 81, 1, 10, 10, 0}, {0, 255, 255, 15, 0, 2, 4, 6, 8, 10, 12, 14, 16, 18, 20, 22, 24, 26, 28, 30, 32, 34, 0}, // a bit whose difference is 0
		{0, 0, 128}, {0, 0, 255}, {4, 81, 129, 10, 10, 1}, // flags above 127
	} {
		refusedBehind(t, sealed(1, body...), api.ErrBlock)
		refusedBehind(t, sealed(2, append(exampleBytes(), body...)...), api.ErrBlock)
		if _, why := plainRows(1, string(body)); why == "" {
			t.Errorf("body %v may be", body)
		}
	}
}

// A bit of the mask whose difference is 0 is seen also where the row compared with is none of zeros.
func TestNoDifference(t *testing.T) {
	two := append(exampleBytes(), 4, 0, 1)
	holds(t, packed(sealed(2, two...)), []api.Row{example(), example()})
	for bit := range 18 {
		refusedBehind(t, sealed(2, slices.Concat(exampleBytes(), []byte{4}, plainVarint(1<<bit), []byte{1, 0})...), api.ErrBlock)
	}
}

// What is wrong with the first block is told ahead of what is wrong with the second, and each ahead of what stands
// behind.
func TestTheFirstBlockIsTold(t *testing.T) {
	whole, rows := fullBlock()
	wrong := sealed(65)
	cut := whole[:len(whole)-1]
	refused(t, packed(wrong, cut), 0, api.ErrBlock, nil)
	refused(t, packed(whole, wrong, cut), 1, api.ErrBlock, rows)
	refused(t, packed(whole, whole, cut), 2, api.ErrEnd, slices.Concat(rows, rows))
	refused(t, packed(whole, cut), 1, api.ErrEnd, rows)
	refused(t, packed(whole, sealed(1), sealed(1, exampleBytes()...)), 1, api.ErrBlock, rows)
	refused(t, packed(whole, []byte{0, 0, 65, 1, 2, 3}), 1, api.ErrEnd, rows) // a byte too few, ahead of a number of rows
	refused(t, packed(whole, []byte{0, 0, 65, 1, 2, 3, 4}), 1, api.ErrBlock, rows)
}
