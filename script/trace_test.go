package script_test

import (
	"math"
	"slices"
	"strconv"
	"strings"
	"testing"

	"braid/api"
	"braid/fixture"
	"braid/script"
)

const (
	least    = "-9223372036854775808"
	greatest = "9223372036854775807"
)

// fields are the fields of a row in the order of P19.5's table, each with a number that is laid into it, and its key.
// (Bools, values and names stand apart.)
var fields = []struct {
	key   string
	blank int
	lay   func(r *api.Row, n int)
}{
	{"job", -1, func(r *api.Row, n int) { r.Job = n }},
	{"try", 0, func(r *api.Row, n int) { r.Try = n }},
	{"attempt", -1, func(r *api.Row, n int) { r.Attempt = n }},
	{"object", -1, func(r *api.Row, n int) { r.Object = n }},
	{"entry", -1, func(r *api.Row, n int) { r.Entry = n }},
	{"enemy", -1, func(r *api.Row, n int) { r.Enemy = n }},
	{"cell", -1, func(r *api.Row, n int) { r.Cell = n }},
	{"seen", 0, func(r *api.Row, n int) { r.Seen = int64(n) }},
	{"wrote", 0, func(r *api.Row, n int) { r.Wrote = int64(n) }},
	{"wait", 0, func(r *api.Row, n int) { r.Wait = n }},
}

var marks = []struct {
	key string
	lay func(r *api.Row)
}{
	{"done", func(r *api.Row) { r.Done = true }},
	{"abort", func(r *api.Row) { r.Abort = true }},
	{"timeout", func(r *api.Row) { r.Timeout = true }},
	{"told", func(r *api.Row) { r.Told = true }},
	{"puts", func(r *api.Row) { r.Puts = true }},
}

// names are the fields that are told by names, each with its names from the number first on.
var names = []struct {
	key   string
	first int
	known []string
	lay   func(r *api.Row, n int)
}{
	{"phase=", 1, []string{"read", "write", "final", "quit"}, func(r *api.Row, n int) { r.Phase = n }},
	{"end=", 1, []string{"commit", "user", "bad", "stale", "killed"}, func(r *api.Row, n int) { r.End = n }},
}

var kindNames = strings.Fields("stutter begin again local release point status mine look up wait down kill acquire boost commit quit return")

// P19.5: each field that is a number, blank and not, at the ends too.
func TestTraceOfNumbers(t *testing.T) {
	for _, f := range fields {
		traced(t, "0 - stutter\n", blank(func(r *api.Row) { f.lay(r, f.blank) }))
		for _, n := range []int{-2, -1, 0, 1, 2, 10, 4096, math.MinInt, math.MaxInt} {
			if n != f.blank {
				traced(t, "0 - stutter "+f.key+"="+strconv.Itoa(n)+"\n", blank(func(r *api.Row) { f.lay(r, n) }))
			}
		}
	}
}

func TestTraceOfMarks(t *testing.T) {
	for _, f := range marks {
		traced(t, "0 - stutter "+f.key+"\n", blank(f.lay))
	}
}

// P19.5: the step and the thread, which are always told.
func TestTraceOfStepsAndThreads(t *testing.T) {
	for _, n := range []int{0, 1, -1, -5, 11, 4095, math.MinInt, math.MaxInt} {
		traced(t, strconv.Itoa(n)+" - stutter\n", blank(func(r *api.Row) { r.Step = n }))
		who := "t" + strconv.Itoa(n)
		if n == -1 {
			who = "-"
		}
		traced(t, "0 "+who+" stutter\n", blank(func(r *api.Row) { r.Thread = n }))
	}
}

// P19.5: each kind, phase and end by its name; each other number behind a ?.
func TestTraceOfNames(t *testing.T) {
	if len(kindNames) != api.RowKinds {
		t.Fatalf("%d kinds", len(kindNames))
	}
	for kind, name := range kindNames {
		traced(t, "0 - "+name+"\n", blank(func(r *api.Row) { r.Kind = kind }))
	}
	for _, n := range []int{-1, -2, api.RowKinds, api.RowKinds + 1, 99, math.MinInt, math.MaxInt} {
		traced(t, "0 - ?"+strconv.Itoa(n)+"\n", blank(func(r *api.Row) { r.Kind = n }))
	}
	for _, f := range names {
		traced(t, "0 - stutter\n", blank(func(r *api.Row) { f.lay(r, 0) }))
		for i, name := range f.known {
			traced(t, "0 - stutter "+f.key+name+"\n", blank(func(r *api.Row) { f.lay(r, f.first+i) }))
		}
		beyond := f.first + len(f.known)
		for _, n := range []int{-1, -2, beyond, beyond + 1, 99, math.MinInt, math.MaxInt} {
			traced(t, "0 - stutter "+f.key+"?"+strconv.Itoa(n)+"\n", blank(func(r *api.Row) { f.lay(r, n) }))
		}
	}
}

// P19.5: a value is told where one of its three is not zero.
func TestTraceOfValues(t *testing.T) {
	for _, c := range []struct {
		text  string
		value api.Value
	}{
		{"5,0,0", api.Value{Num: 5}},
		{"0,-1,0", api.Value{Next: -1}},
		{"0,0,1", api.Value{Dead: true}},
		{"-7,3,1", api.Value{Num: -7, Next: 3, Dead: true}},
		{least + "," + greatest + ",0", api.Value{Num: math.MinInt64, Next: math.MaxInt}},
		{greatest + "," + least + ",1", api.Value{Num: math.MaxInt64, Next: math.MinInt, Dead: true}},
	} {
		traced(t, "0 - stutter value="+c.text+"\n", blank(func(r *api.Row) { r.Value = c.value }))
		traced(t, "0 - stutter put="+c.text+"\n", blank(func(r *api.Row) { r.Put = c.value }))
		traced(t, "0 - stutter told value="+c.text+" puts put="+c.text+"\n",
			blank(func(r *api.Row) { r.Told, r.Value, r.Puts, r.Put = true, c.value, true, c.value }))
	}
	traced(t, "0 - stutter told puts\n", blank(func(r *api.Row) { r.Told, r.Puts = true, true }))
}

// full is a row of which no field is blank.
func full() api.Row {
	return api.Row{
		Step: 1, Thread: 2, Job: 3, Try: 4, Attempt: 5, Kind: api.RowLook, Phase: api.PhaseFinal, Object: 6, Entry: 7, Enemy: 8, Cell: 9,
		Seen: 10, Wrote: 11, Done: true, Abort: true, Timeout: true, Wait: 12, Told: true, Value: api.Value{Num: 13, Next: 14, Dead: true},
		Puts: true, Put: api.Value{Num: 15, Next: 16}, End: api.EndStale,
	}
}

const fullLine = "1 t2 look job=3 try=4 attempt=5 phase=final object=6 entry=7 enemy=8 cell=9 seen=10 wrote=11 done abort timeout wait=12 " +
	"told value=13,14,1 puts put=15,16,0 end=stale"

// P19.5: all fields at once, in their order; several rows; a row of zeros.
func TestTraceOfRows(t *testing.T) {
	traced(t, "")
	traced(t, fullLine+"\n", full())
	traced(t, fullLine+"\n0 - stutter\n"+fullLine+"\n", full(), fixture.Stutter(), full())
	traced(t, "0 t0 stutter job=0 attempt=0 object=0 entry=0 enemy=0 cell=0\n", api.Row{})
	traced(t, "-1 t-5 ?99 job=0 attempt=0 phase=?-1 object=0 entry=0 enemy=0 cell=0 seen="+least+" value=0,0,1 puts end=?6\n",
		api.Row{Step: -1, Thread: -5, Kind: 99, Phase: -1, End: 6, Seen: math.MinInt64, Value: api.Value{Dead: true}, Puts: true})
	traced(t, times(4096, "0 - stutter\n"), slices.Repeat([]api.Row{fixture.Stutter()}, 4096)...)
	if text := script.Trace([]api.Row{}); text != "" {
		t.Errorf("%q", text)
	}
}

// Chapter 19's example 5.
func TestExample5(t *testing.T) {
	traced(t, "11 - stutter\n", api.Row{Step: 11, Thread: -1, Job: -1, Attempt: -1, Object: -1, Entry: -1, Enemy: -1, Cell: -1})
	noRows(t, "11 - stutter", 1)
	noRows(t, "011 - stutter\n", 1)
	noRows(t, "11 - stutter job=-1\n", 1)
}

// P19.6: a text without a last byte 10 is no rows', at the latest at its last line.
func TestRowsOfCutTexts(t *testing.T) {
	text := "1 - stutter\n" + fullLine + "\n2 t0 begin\n"
	for n := 1; n < len(text); n++ {
		cut := text[:n]
		if strings.HasSuffix(cut, "\n") {
			if rows, line, e := script.Rows(cut); len(rows) != strings.Count(cut, "\n") || line != 0 || e != api.OK {
				t.Errorf("Rows(%q) = %+v, line %d, error %d", cut, rows, line, e)
			}
			continue
		}
		noRows(t, cut, strings.Count(cut, "\n")+1)
	}
	noRows(t, "x\n1 - stutter", 1)
	noRows(t, "1 - stutter\nx\n2 - stutter", 2)
	noRows(t, " ", 1)
}

// P19.6: the first line that is no row's is the one that is told.
func TestLinesThatAreNoRows(t *testing.T) {
	for _, line := range []string{
		"", " ", "\t", "x", "#", "1", "1 -", "1 - ", "1 t0", "1 begin", "- stutter", "1 stutter", "1 stutter -", "t0 begin", "0 - stutter # x",
		" 1 - stutter", "1 - stutter ", "1  - stutter", "1 -  stutter", "1 - stutter  job=1", "1\t- stutter", "1 - stutter\tjob=1", "1 - stutter\r", "1 - stutter\x00",
		"+1 - stutter", "01 - stutter", "-0 - stutter", "1.0 - stutter", "9223372036854775808 - stutter", "-9223372036854775809 - stutter", "x - stutter",
		"1 t-1 stutter", "1 t stutter", "1 t01 stutter", "1 t+1 stutter", "1 t-0 stutter", "1 T1 stutter", "1 1 stutter", "1 -1 stutter", "1 t9223372036854775808 stutter", "1 t- stutter",
		"1 - Stutter", "1 - stutters", "1 - none", "1 - ?", "1 - ?0", "1 - ?1", "1 - ?17", "1 - ?-0", "1 - ?018", "1 - ?x", "1 - 0", "1 - 18", "1 - ??18", "1 - ?9223372036854775808", "1 - ",
		"1 - stutter phase=none", "1 - stutter phase=", "1 - stutter phase", "1 - stutter phase=?0", "1 - stutter phase=?1", "1 - stutter phase=?4", "1 - stutter phase=Read", "1 - stutter phase=1",
		"1 - stutter phase=reads", "1 - stutter phase=?", "1 - stutter phase=?05", "1 - stutter phase=commit", "1 - stutter phase=read phase=read",
		"1 - stutter end=none", "1 - stutter end=", "1 - stutter end", "1 - stutter end=?0", "1 - stutter end=?1", "1 - stutter end=?5", "1 - stutter end=Commit", "1 - stutter end=5", "1 - stutter end=read",
		"1 - stutter Done", "1 - stutter done=1", "1 - stutter done done", "1 - stutter =", "1 - stutter x=1", "1 - stutter thread=1", "1 - stutter step=1",
		"1 - stutter value", "1 - stutter value=", "1 - stutter value=0,0,0", "1 - stutter put=0,0,0", "1 - stutter value=1", "1 - stutter value=1,0", "1 - stutter value=1,0,0,0",
		"1 - stutter value=1,0,2", "1 - stutter value=1,0,00", "1 - stutter value=1,0,-1", "1 - stutter value=1,0,", "1 - stutter value=,0,1", "1 - stutter value=1,,1", "1 - stutter value=01,0,0",
		"1 - stutter value=1,-0,0", "1 - stutter value=1, 0,0", "1 - stutter value=1,0,true", "1 - stutter value=9223372036854775808,0,0", "1 - stutter value=1,9223372036854775808,0",
		"1 - stutter put=1,0,2", "1 - stutter put=1,x,1", "1 - stutter value=1,0,0 value=1,0,0", "1 - stutter 1 - stutter",
	} {
		noRows(t, line+"\n", 1)
		noRows(t, "1 - stutter\n"+fullLine+"\n"+line+"\n", 3)
		noRows(t, "1 - stutter\n"+line+"\nx\n1 - stutter", 2)
	}
	noRows(t, "1 - stutter\n\n", 2)
	noRows(t, "\n1 - stutter\n", 1)
}

// P19.6: a field that is blank has no word, and its number is written in one way alone.
func TestFieldsThatAreNoFields(t *testing.T) {
	for _, f := range fields {
		for _, n := range []string{strconv.Itoa(f.blank), "", "x", "+5", "05", "-0", "5.0", "0x5", "9223372036854775808", "-9223372036854775809", "5,0,0", "=5", "?5"} {
			noRows(t, "1 - stutter "+f.key+"="+n+"\n", 1)
		}
		for _, w := range []string{f.key, f.key + " 5", f.key + " =5", strings.ToUpper(f.key) + "=5", f.key + "=5 " + f.key + "=5", f.key + "=5 " + f.key + "=6", "x" + f.key + "=5"} {
			noRows(t, "1 - stutter "+w+"\n", 1)
		}
	}
}

// P19.6: the words of a line stand in their order, each once.
func TestWordsOutOfTheirOrder(t *testing.T) {
	words := strings.Fields(fullLine)
	for i := range words {
		for j := range i { // two that have changed places
			turned := slices.Clone(words)
			turned[i], turned[j] = turned[j], turned[i]
			noRows(t, strings.Join(turned, " ")+"\n", 1)
		}
		noRows(t, strings.Join(slices.Insert(slices.Clone(words), i, words[i]), " ")+"\n", 1)
		if without := strings.Join(slices.Delete(slices.Clone(words), i, i+1), " "); i < 3 {
			noRows(t, without+"\n", 1)
		} else if rows, line, e := script.Rows(without + "\n"); len(rows) != 1 || line != 0 || e != api.OK || script.Trace(rows) != without+"\n" {
			t.Errorf("Rows(%q) = %+v, line %d, error %d", without, rows, line, e)
		}
	}
}
