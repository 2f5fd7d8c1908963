package pack

import (
	"bytes"

	"braid/api"
)

// The parts of a block (P26.3).
const (
	headSize = 3 // two bytes of the body's length, one of the number of rows
	sumSize  = 4
	most     = 64 // rows of a block; one with fewer is the last
)

// block is the bytes of 1 to 64 rows.
func block(rows []api.Row) []byte {
	b := []byte{0, 0, byte(len(rows))}
	last := map[int]api.Row{} // each thread's; of a thread that had none, the zero row
	for _, row := range rows {
		b = appendRow(b, row, last[row.Thread])
		last[row.Thread] = row
	}
	length := len(b) - headSize
	b[0], b[1] = byte(length>>8), byte(length)
	sum := Sum(b)
	return append(b, byte(sum), byte(sum>>8), byte(sum>>16), byte(sum>>24))
}

// appendRow lays a row's bytes behind others: what it has else than the row that it is compared with (P26.4).
func appendRow(b []byte, row, was api.Row) []byte {
	var mask uint64
	var differences []byte
	for bit, f := range fields() {
		if d := f.of(&row) - f.of(&was); d != 0 {
			mask |= 1 << bit
			differences = appendVarint(differences, zigzag(d))
		}
	}
	b = appendVarint(b, zigzag(int64(row.Thread)))
	b = appendVarint(b, mask)
	b = append(b, flagsOf(&row))
	return append(b, differences...)
}

// cut answers the first block's bytes and those behind it, if there are as many as its length says. Neither has room
// that is another's.
func cut(b []byte) (first, behind []byte, whole bool) {
	if len(b) < headSize {
		return nil, nil, false
	}
	size := headSize + int(b[0])<<8 + int(b[1]) + sumSize
	if len(b) < size {
		return nil, nil, false
	}
	return b[:size:size], b[size:len(b):len(b)], true
}

// rowsOf answers the rows of which these bytes are the block, if there are such. No other bytes are a block than those
// that are made of rows: so it is asked but once, of the whole block, whether its body and its sum may be.
func rowsOf(b []byte) ([]api.Row, bool) {
	count, end := int(b[headSize-1]), len(b)-sumSize
	if count < 1 || count > most {
		return nil, false
	}
	rows := taken(b[headSize:end:end], count)
	return rows, bytes.Equal(block(rows), b)
}

// taken takes so many rows out of a body, whatever stands there.
func taken(body []byte, count int) []api.Row {
	r := reader{body}
	last := map[int]api.Row{}
	rows := make([]api.Row, count)
	for i := range rows {
		rows[i] = r.row(last)
		last[rows[i].Thread] = rows[i]
	}
	return rows
}

// row takes a row, told by what it has else than the last one of its thread.
func (r *reader) row(last map[int]api.Row) api.Row {
	thread := int(unzigzag(r.varint()))
	row := last[thread]
	row.Thread = thread
	mask := r.varint()
	layFlags(&row, r.next())
	for bit, f := range fields() {
		if mask>>bit&1 == 1 {
			f.lay(&row, f.of(&row)+unzigzag(r.varint()))
		}
	}
	return row
}
