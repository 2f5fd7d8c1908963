package script

import (
	"slices"
	"strings"

	"braid/api"
	"braid/word"
)

// none is the blank value of what is numbered from 0 on.
const none = -1

// Names, by their places: the numbers are those of package api. A field with the name unnamed has no word.
const (
	unnamed = "none"
	kinds   = "stutter begin again local release point status mine look up wait down kill acquire boost commit quit return"
	phases  = "none read write final quit"
	ends    = "none commit user bad stale killed"
)

// field is a field of a row.
type field interface {
	word() string     // "": it is blank
	take(string) bool // takes its value out of a word, if the word is of its kind
}

// fieldsOf are the fields of a row in the order in which they are told, the ones for Trace as for Rows.
func fieldsOf(r *api.Row) []field {
	return []field{
		figure[int]{"", &r.Step, 0, "0"},
		figure[int]{"t", &r.Thread, none, "-"},
		name{"", &r.Kind, kinds},
		figure[int]{"job=", &r.Job, none, ""},
		figure[int]{"try=", &r.Try, 0, ""},
		figure[int]{"attempt=", &r.Attempt, none, ""},
		name{"phase=", &r.Phase, phases},
		figure[int]{"object=", &r.Object, none, ""},
		figure[int]{"entry=", &r.Entry, none, ""},
		figure[int]{"enemy=", &r.Enemy, none, ""},
		figure[int]{"cell=", &r.Cell, none, ""},
		figure[int64]{"seen=", &r.Seen, 0, ""},
		figure[int64]{"wrote=", &r.Wrote, 0, ""},
		mark{"done", &r.Done},
		mark{"abort", &r.Abort},
		mark{"timeout", &r.Timeout},
		figure[int]{"wait=", &r.Wait, 0, ""},
		mark{"told", &r.Told},
		value{"value=", &r.Value},
		mark{"puts", &r.Puts},
		value{"put=", &r.Put},
		name{"end=", &r.End, ends},
	}
}

// told is a row's line, without its byte 10.
func told(r api.Row) string {
	var words []string
	for _, f := range fieldsOf(&r) {
		if w := f.word(); w != "" {
			words = append(words, w)
		}
	}
	return strings.Join(words, " ")
}

// rowsOf reads lines, of which each but the last has a byte 10 behind it; the last one is to be empty.
func rowsOf(lines []string) []api.Row {
	var rows []api.Row
	last := len(lines) - 1
	for i, line := range lines[:last] {
		row := rowOf(line)
		if told(row) != line {
			panic(fault{i + 1, api.ErrLine})
		}
		rows = append(rows, row)
	}
	if lines[last] != "" {
		panic(fault{last + 1, api.ErrLine})
	}
	return rows
}

// rowOf answers the one row of which a line may be: it takes words as they come, and does not ask whether all were
// taken, nor whether a number is written as it should be. Who asks holds the row's own line against the line.
func rowOf(line string) api.Row {
	row := api.Row{Thread: none, Job: none, Attempt: none, Object: none, Entry: none, Enemy: none, Cell: none}
	words := strings.Split(line, " ")
	for _, f := range fieldsOf(&row) {
		if len(words) > 0 && f.take(words[0]) {
			words = words[1:]
		}
	}
	return row
}

// figure is a field that is a number, told behind its key; instead stands in place of both where it is blank.
type figure[N int | int64] struct {
	key     string
	at      *N
	blank   N
	instead string
}

func (f figure[N]) word() string {
	if *f.at == f.blank {
		return f.instead
	}
	return f.key + number(*f.at)
}

func (f figure[N]) take(w string) bool {
	if w == f.instead {
		*f.at = f.blank
		return true
	}
	text, keyed := strings.CutPrefix(w, f.key)
	n, e := word.Parse(text)
	if !keyed || e != api.OK {
		return false
	}
	*f.at = N(n)
	return true
}

// name is a field that is a number with a name.
type name struct {
	key   string
	at    *int
	names string
}

func (f name) word() string {
	known := named(*f.at, f.names)
	if known == unnamed {
		return ""
	}
	return f.key + known
}

func (f name) take(w string) bool {
	text, keyed := strings.CutPrefix(w, f.key)
	n, known := numbered(text, f.names)
	if !keyed || !known {
		return false
	}
	*f.at = n
	return true
}

// named tells a number's name; the number itself behind a ?, where it has none.
func named(n int, names string) string {
	list := strings.Fields(names)
	if n < 0 || n >= len(list) {
		return "?" + number(n)
	}
	return list[n]
}

func numbered(text, names string) (int, bool) {
	if digits, odd := strings.CutPrefix(text, "?"); odd {
		n, e := word.Parse(digits)
		return int(n), e == api.OK
	}
	n := slices.Index(strings.Fields(names), text)
	return n, n >= 0
}

// mark is a field that is told by its key alone.
type mark struct {
	key string
	at  *bool
}

func (f mark) word() string {
	if *f.at {
		return f.key
	}
	return ""
}

func (f mark) take(w string) bool {
	if w == f.key {
		*f.at = true
	}
	return w == f.key
}

// value is a field that is what an object holds.
type value struct {
	key string
	at  *api.Value
}

func (f value) word() string {
	if *f.at == (api.Value{}) {
		return ""
	}
	return f.key + valueText(*f.at)
}

func (f value) take(w string) bool {
	text, keyed := strings.CutPrefix(w, f.key)
	parts := strings.Split(text, ",")
	if !keyed || len(parts) != 3 {
		return false
	}
	num, e := word.Parse(parts[0])
	next, g := word.Parse(parts[1])
	if e != api.OK || g != api.OK {
		return false
	}
	*f.at = api.Value{Num: num, Next: int(next), Dead: parts[2] == "1"}
	return true
}

func valueText(v api.Value) string { return number(v.Num) + "," + number(v.Next) + "," + bit(v.Dead) }
