package pack_test

import (
	"bytes"
	"math"
	"slices"
	"testing"

	"braid/api"
	"braid/fixture"
	"braid/pack"
)

// ends are the places in the bytes of rows at which the four bytes and the blocks end.
func ends(t *testing.T, rows []api.Row) []int {
	t.Helper()
	var list []int
	for n := 0; n < len(rows); n += 64 {
		list = append(list, len(packs(t, rows[:n])))
	}
	return append(list, len(packs(t, rows)))
}

// P26.10: for every beginning of the rows that fills its blocks, and every beginning of the bytes.
func TestBeginnings(t *testing.T) {
	t.Parallel()
	d := fixture.NewDice()
	for _, rows := range [][]api.Row{
		nil, {example()}, odd(&d, 3), played(t, &d, 64)[:64], played(t, &d, 140)[:140], slices.Repeat([]api.Row{example()}, 200), odd(&d, 66),
	} {
		b, all := packs(t, rows), ends(t, rows)
		for k := range len(rows)/64 + 1 {
			if !bytes.HasPrefix(b, packs(t, rows[:64*k])) {
				t.Errorf("the bytes of %d rows are no beginning of those of %d", 64*k, len(rows))
			}
		}
		for n := range len(b) + 1 {
			beginning(t, b[:n:n], rows, all)
		}
	}
}

// beginning looks at what begins the bytes of rows, whose blocks end there.
func beginning(t *testing.T, b []byte, rows []api.Row, ends []int) {
	t.Helper()
	if len(b) < ends[0] {
		refused(t, b, 0, api.ErrMagic, nil)
		return
	}
	blocks := 0
	for blocks+1 < len(ends) && ends[blocks+1] <= len(b) {
		blocks++
	}
	within := rows[:min(64*blocks, len(rows))]
	if ends[blocks] == len(b) {
		holds(t, b, within)
		return
	}
	refused(t, b, blocks, api.ErrEnd, within)
}

// turned are the bytes with some bits turned: of pattern, from the bit of that number on, each byte's lowest bit first.
func turned(b []byte, from int, pattern uint64) []byte {
	spoilt := slices.Clone(b)
	for i := range 64 {
		if pattern>>i&1 == 1 {
			spoilt[(from+i)/8] ^= 1 << ((from + i) % 8)
		}
	}
	return spoilt
}

// P26.11: every single bit of a block.
func TestTurnedBits(t *testing.T) {
	t.Parallel()
	d := fixture.NewDice()
	for _, rows := range [][]api.Row{{example()}, {{}}, odd(&d, 5), played(t, &d, 64)[:64], slices.Repeat([]api.Row{example()}, 129)} {
		b, all := packs(t, rows), ends(t, rows)
		for k := range all[1:] {
			for bit := 8 * (all[k] + 2); bit < 8*all[k+1]; bit++ {
				refused(t, turned(b, bit, 1), k, api.ErrBlock, rows[:64*k])
			}
		}
	}
}

// P26.11: some bits within 32, at any place of any block, to its very end.
func TestTurnedGroups(t *testing.T) {
	t.Parallel()
	d := fixture.NewDice()
	for range 300 {
		rows := odd(&d, 1+d.Below(20))
		if d.Below(4) == 0 {
			rows = played(t, &d, 150)[:60+d.Below(90)]
		}
		b, all := packs(t, rows), ends(t, rows)
		for range 30 {
			k := d.Below(len(all) - 1)
			first, last := 8*(all[k]+2), 8*all[k+1]
			width := 1 + d.Below(32)
			from := fixture.Pick(&d, first, last-width, first+d.Below(last-width-first+1))
			pattern := 1 | d.Roll()&(1<<width-1)
			refused(t, turned(b, from, pattern), k, api.ErrBlock, rows[:64*k])
		}
	}
}

// sameRead holds what bytes are said to hold against the chapter, said plainly; it answers what is wrong with them.
func sameRead(t *testing.T, b []byte) string {
	t.Helper()
	want := plainUnpack(b)
	if want.error != api.OK {
		refused(t, b, len(want.sizes), want.error, want.rows)
		return want.why
	}
	holds(t, b, want.rows)
	if again := packs(t, want.rows); !bytes.Equal(again, b) { // P26.9
		t.Errorf("Pack(Unpack(%v)) = %v", b, again)
	}
	return "nothing"
}

// P26.9: rows of runs, and rows such as no run has, there and back.
func TestThereAndBack(t *testing.T) {
	t.Parallel()
	d := fixture.NewDice()
	for n := range 400 {
		rows := odd(&d, d.Below(200))
		if n%4 == 0 {
			rows = played(t, &d, 200)
		}
		stands(t, rows, plainPack(rows))
	}
	long := played(t, &d, api.MaxPicks)
	stands(t, long, plainPack(long))
}

// spoil changes a body here and there, as what is read might be misread.
func spoil(d *fixture.Dice, body []byte) []byte {
	body = slices.Clone(body)
	for range 1 + d.Below(2) {
		at := d.Below(len(body) + 1)
		switch d.Below(7) {
		case 0:
			body = slices.Insert(body, at, byte(d.Roll()))
		case 1:
			body = slices.Insert(body, at, fixture.Pick[byte](d, 0, 128, 255))
		case 2:
			body = body[:at]
		case 3:
			body = slices.Insert(body, at, slices.Repeat([]byte{fixture.Pick[byte](d, 128, 255)}, d.Below(11))...)
		default:
			if at < len(body) {
				body[at] = fixture.Pick(d, body[at]^128, body[at]^1, body[at]+1, 0, byte(d.Roll()))
			}
		}
	}
	return body
}

// thrown gives bytes that are blocks, spoilt or not: bodies with right sums, sums alone, ends, heads.
func thrown(d *fixture.Dice) []byte {
	var blocks [][]byte
	for left := fixture.Pick(d, 1, 1, 2, 64, 65, 130, d.Below(200)); left > 0; left -= 64 {
		rows := odd(d, min(left, 64))
		if d.Below(4) == 0 {
			rows = make([]api.Row, min(left, 64))
		}
		body, count := plainBody(rows), len(rows)
		if d.Below(3) == 0 {
			body = spoil(d, body)
		}
		if d.Below(9) == 0 {
			count = fixture.Pick(d, 0, 1, count-1, count+1, 64, 65, 255)
		}
		blocks = append(blocks, sealed(count, body...))
	}
	b := packed(blocks...)
	if d.Below(4) == 0 {
		b = spoil(d, b)
	}
	return b
}

// P26.6 to P26.9 over thrown, spoilt bytes: each thing that may be wrong, and bytes that may be all the same.
func TestThrownBytes(t *testing.T) {
	t.Parallel()
	d := fixture.NewDice()
	seen := map[string]int{}
	for range 6000 {
		seen[sameRead(t, thrown(&d))]++
	}
	for _, why := range []string{
		"nothing", "other bytes at the beginning", "bytes behind a block of fewer rows", "a head cut short", "a body cut short", "a sum cut short",
		"another sum", "a block without rows", "more than 64 rows", "bytes behind the last row", "a bit of the mask from 18 on", "no flags",
		"flags above 127", "a bit whose difference is 0", "a varint cut short", "a varint of more than ten bytes",
		"a varint that is longer than it must be", "a varint above 64 bits",
	} {
		if seen[why] < 3 {
			t.Errorf("%q: %d times", why, seen[why])
		}
		delete(seen, why)
	}
	if len(seen) > 0 {
		t.Errorf("there is more that may be wrong: %v", seen)
	}
}

// All short bodies of one row, with their right sums.
func TestShortBodies(t *testing.T) {
	t.Parallel()
	taken := 0
	for n := range 1 << 16 {
		for _, body := range [][]byte{{byte(n), byte(n >> 8)}, {0, byte(n), byte(n >> 8)}, {byte(n), 0, byte(n >> 8)}, {1, byte(n), 5, byte(n >> 8)}} {
			rows, _, e := pack.Unpack(packed(sealed(1, body...)))
			want, why := plainRows(1, string(body))
			if (e == api.OK) != (why == "") || !slices.Equal(rows, want) {
				t.Fatalf("body %v: %+v, %d, want %+v, %q", body, rows, e, want, why)
			}
			if e == api.OK {
				taken++
			}
		}
	}
	if want := 128 + 128*128 + 7*127; taken != want { // a mask of 0 and flags; a Thread and flags; a bit and its difference
		t.Errorf("%d bodies are taken, want %d", taken, want)
	}
}

// A body as long as may be, of nothing but varints without an end, is refused soon.
func TestLongBodies(t *testing.T) {
	for _, c := range []byte{0, 1, 127, 128, 255} {
		for _, count := range []int{1, 64} {
			refused(t, packed(sealed(count, slices.Repeat([]byte{c}, math.MaxUint16)...)), 0, api.ErrBlock, nil)
		}
	}
}
