package pack_test

import (
	"math/big"
	"strconv"
	"strings"

	"braid/api"
)

// What follows says the chapter once more: slowly, its numbers as texts of bits or without bound, and where bytes are
// read each thing that may be wrong by itself.

// plainSum is P26.1, word by word.
func plainSum(b []byte) uint32 {
	sum := uint64(1<<32 - 1)
	for _, c := range b {
		sum = sum/256*256 + (sum%256 ^ uint64(c))
		for range 8 {
			odd := sum%2 == 1
			sum /= 2
			if odd {
				sum ^= 3988292384
			}
		}
	}
	return uint32(1<<32 - 1 - sum)
}

// plainVarint is a number's bits in groups of seven, the last group first.
func plainVarint(u uint64) []byte {
	bits := strconv.FormatUint(u, 2)
	var b []byte
	for len(bits) > 7 {
		group, _ := strconv.ParseUint("1"+bits[len(bits)-7:], 2, 8)
		b, bits = append(b, byte(group)), bits[:len(bits)-7]
	}
	group, _ := strconv.ParseUint(bits, 2, 8)
	return append(b, byte(group))
}

func plainZigzag(x int64) uint64 {
	z := new(big.Int).Mul(big.NewInt(x), big.NewInt(2))
	if x < 0 {
		z.Not(z) // -2x - 1
	}
	return z.Uint64()
}

// numbersOf are the fields 0 to 17.
func numbersOf(r api.Row) [18]int64 {
	return [18]int64{
		int64(r.Step), int64(r.Job), int64(r.Try), int64(r.Attempt), int64(r.Kind), int64(r.Phase), int64(r.Object), int64(r.Entry),
		int64(r.Enemy), int64(r.Cell), r.Seen, r.Wrote, int64(r.Wait), r.Value.Num, int64(r.Value.Next), r.Put.Num, int64(r.Put.Next), int64(r.End),
	}
}

// flagsOf are the flags, the one that counts 1 first.
func flagsOf(r api.Row) [7]bool {
	return [7]bool{r.Done, r.Abort, r.Timeout, r.Told, r.Puts, r.Value.Dead, r.Put.Dead}
}

func rowOf(thread int, n [18]int64, f [7]bool) api.Row {
	return api.Row{
		Step: int(n[0]), Thread: thread, Job: int(n[1]), Try: int(n[2]), Attempt: int(n[3]), Kind: int(n[4]), Phase: int(n[5]),
		Object: int(n[6]), Entry: int(n[7]), Enemy: int(n[8]), Cell: int(n[9]), Seen: n[10], Wrote: n[11], Done: f[0], Abort: f[1], Timeout: f[2],
		Wait: int(n[12]), Told: f[3], Value: api.Value{Num: n[13], Next: int(n[14]), Dead: f[5]}, Puts: f[4],
		Put: api.Value{Num: n[15], Next: int(n[16]), Dead: f[6]}, End: int(n[17]),
	}
}

// comparedWith is the last row of a thread.
func comparedWith(ahead []api.Row, thread int) api.Row {
	for i := len(ahead) - 1; i >= 0; i-- {
		if ahead[i].Thread == thread {
			return ahead[i]
		}
	}
	return api.Row{}
}

// plainRow is the bytes of a row behind others in its block.
func plainRow(ahead []api.Row, row api.Row) []byte {
	now, was := numbersOf(row), numbersOf(comparedWith(ahead, row.Thread))
	mask, flags := uint64(0), byte(0)
	var rest []byte
	for i := 17; i >= 0; i-- {
		mask *= 2
		if now[i] != was[i] {
			mask++
			rest = append(plainVarint(plainZigzag(now[i]-was[i])), rest...)
		}
	}
	for i, up := range flagsOf(row) {
		if up {
			flags |= 1 << i
		}
	}
	b := append(plainVarint(plainZigzag(int64(row.Thread))), plainVarint(mask)...)
	return append(append(b, flags), rest...)
}

// plainBody is the bytes of a block's rows.
func plainBody(rows []api.Row) []byte {
	var body []byte
	for i, row := range rows {
		body = append(body, plainRow(rows[:i], row)...)
	}
	return body
}

func plainPack(rows []api.Row) []byte {
	b := []byte(magic)
	for i := 0; i < len(rows); i += 64 {
		part := rows[i:min(i+64, len(rows))]
		b = append(b, sealed(len(part), plainBody(part)...)...)
	}
	return b
}

// read is what bytes hold, up to the block that may not be, and what is wrong with it.
type read struct {
	rows  []api.Row
	sizes []int
	error api.Errno
	why   string
}

func plainUnpack(b []byte) read {
	var r read
	text, is := strings.CutPrefix(string(b), magic)
	if !is {
		r.error, r.why = api.ErrMagic, "other bytes at the beginning"
		return r
	}
	for text != "" {
		end := 0
		if end, r.why = plainEnd(text, r.sizes); r.why != "" {
			r.error = api.ErrEnd
			return r
		}
		rows, why := plainBlock(text[:end])
		if r.why = why; why != "" {
			r.error = api.ErrBlock
			return r
		}
		r.rows, r.sizes, text = append(r.rows, rows...), append(r.sizes, len(rows)), text[end:]
	}
	return r
}

// plainEnd tells where the block ends that stands behind blocks of such sizes.
func plainEnd(text string, sizes []int) (int, string) {
	if n := len(sizes); n > 0 && sizes[n-1] < 64 {
		return 0, "bytes behind a block of fewer rows"
	}
	if len(text) < 3 {
		return 0, "a head cut short"
	}
	body := 256*int(text[0]) + int(text[1])
	if len(text) < 3+body {
		return 0, "a body cut short"
	}
	if len(text) < 3+body+4 {
		return 0, "a sum cut short"
	}
	return 3 + body + 4, ""
}

func plainBlock(text string) ([]api.Row, string) {
	end := len(text) - 4
	sum := plainSum([]byte(text[:end]))
	for i := range 4 {
		if text[end+i] != byte(sum>>(8*i)) {
			return nil, "another sum"
		}
	}
	if text[2] == 0 {
		return nil, "a block without rows"
	}
	if text[2] > 64 {
		return nil, "more than 64 rows"
	}
	return plainRows(int(text[2]), text[3:end])
}

func plainRows(count int, body string) ([]api.Row, string) {
	var rows []api.Row
	for range count {
		row, rest, why := plainTake(rows, body)
		if why != "" {
			return nil, why
		}
		rows, body = append(rows, row), rest
	}
	if body != "" {
		return nil, "bytes behind the last row"
	}
	return rows, ""
}

// plainTake takes a row off a body.
func plainTake(ahead []api.Row, body string) (row api.Row, rest, why string) {
	thread, body, why := plainNumber(body)
	if why != "" {
		return row, "", why
	}
	mask, body, why := plainNumber(body)
	if why != "" {
		return row, "", why
	}
	if mask >= 1<<18 {
		return row, "", "a bit of the mask from 18 on"
	}
	if body == "" {
		return row, "", "no flags"
	}
	if body[0] > 127 {
		return row, "", "flags above 127"
	}
	var flags [7]bool
	for i := range flags {
		flags[i] = body[0]>>i%2 == 1
	}
	was := comparedWith(ahead, plainSigned(thread))
	numbers, rest, why := plainDifferences(numbersOf(was), mask, body[1:])
	return rowOf(plainSigned(thread), numbers, flags), rest, why
}

func plainDifferences(was [18]int64, mask uint64, body string) (now [18]int64, rest, why string) {
	for i := range was {
		if mask>>i%2 == 0 {
			continue
		}
		var u uint64
		if u, body, why = plainNumber(body); why != "" {
			return now, "", why
		}
		if u == 0 {
			return now, "", "a bit whose difference is 0"
		}
		was[i] += int64(plainSigned(u))
	}
	return was, body, ""
}

// plainSigned is the number of which this is the zigzag.
func plainSigned(u uint64) int {
	if u%2 == 0 {
		return int(u / 2)
	}
	return -1 - int(u/2)
}

// plainNumber takes a varint off a body.
func plainNumber(body string) (u uint64, rest, why string) {
	last := 0
	for last < len(body) && body[last] > 127 {
		last++
	}
	if last == len(body) {
		return 0, "", "a varint cut short"
	}
	if last > 9 {
		return 0, "", "a varint of more than ten bytes"
	}
	if last > 0 && body[last] == 0 {
		return 0, "", "a varint that is longer than it must be"
	}
	if last == 9 && body[last] > 1 {
		return 0, "", "a varint above 64 bits"
	}
	for i := last; i >= 0; i-- {
		u = u*128 + uint64(body[i]%128)
	}
	return u, body[last+1:], ""
}
