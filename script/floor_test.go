package script_test

import (
	"strconv"
	"strings"
	"testing"

	"braid/api"
	"braid/fixture"
	"braid/machine"
	"braid/script"
)

const (
	head = "objects 1\nmanager polite 5\ndraws\n" // what stands behind it begins at line 4
	tail = "thread\npicks\n"
	adds = "get r1 @0\nadd r1 r1 1\nput @0 r1\ndone r1\n"
)

// plainHead is the script of head, with these threads and no picks.
func plainHead(threads ...[]machine.Job) machine.Script {
	return machine.Script{Objects: []int64{1}, Manager: api.Polite, Patience: 5, Threads: threads}
}

// reads is the script of a text that has no fault.
func reads(t *testing.T, text string) machine.Script {
	t.Helper()
	s, line, e := script.Parse(text)
	if line != 0 || e != api.OK {
		t.Fatalf("Parse(%.300q): line %d, error %d", text, line, e)
	}
	if e := machine.Check(s); e != api.OK {
		t.Fatalf("Parse(%.300q) is a script that may not be: %d", text, e)
	}
	return s
}

// says looks that a text is that script.
func says(t *testing.T, text string, want machine.Script) {
	t.Helper()
	if got := reads(t, text); !fixture.SameScript(got, want) {
		t.Errorf("Parse(%.300q) = %+v, want %+v", text, got, want)
	}
}

func isZero(s machine.Script) bool {
	return s.Objects == nil && s.Threads == nil && s.Draws == nil && s.Picks == nil && s.Manager == 0 && s.Patience == 0
}

// faulty looks that a text is refused with that line and error, by all that read it.
func faulty(t *testing.T, text string, line int, why api.Errno) {
	t.Helper()
	if s, at, e := script.Parse(text); at != line || e != why || !isZero(s) {
		t.Errorf("Parse(%.300q) = %+v, line %d, error %d, want line %d, error %d", text, s, at, e, line, why)
	}
	if out, at, e := script.Run(text); out != "" || at != line || e != why {
		t.Errorf("Run(%.300q) = %.100q, line %d, error %d, want line %d, error %d", text, out, at, e, line, why)
	}
	if out, at, e := script.Judged(text); out != "" || at != line || e != why {
		t.Errorf("Judged(%.300q) = %.100q, line %d, error %d, want line %d, error %d", text, out, at, e, line, why)
	}
}

// prints looks that a script has that text, and that the text is the script's.
func prints(t *testing.T, s machine.Script, want string) {
	t.Helper()
	text, e := script.Print(s)
	if text != want || e != api.OK {
		t.Errorf("Print(%+v) = %q, %d, want %q", s, text, e, want)
	}
	says(t, text, s)
}

// traced looks that rows have that text, and that the text is the rows'.
func traced(t *testing.T, want string, rows ...api.Row) {
	t.Helper()
	if got := script.Trace(rows); got != want {
		t.Errorf("Trace(%+v) = %q, want %q", rows, got, want)
	}
	got, line, e := script.Rows(want)
	if line != 0 || e != api.OK || len(got) != len(rows) {
		t.Fatalf("Rows(%q) = %+v, line %d, error %d", want, got, line, e)
	}
	for i := range rows {
		if got[i] != rows[i] {
			t.Errorf("Rows(%q): row %d is %+v, want %+v", want, i, got[i], rows[i])
		}
	}
}

// noRows looks that a text is no rows', and that this is seen at that line.
func noRows(t *testing.T, text string, line int) {
	t.Helper()
	if rows, at, e := script.Rows(text); rows != nil || at != line || e != api.ErrLine {
		t.Errorf("Rows(%.300q) = %+v, line %d, error %d, want line %d", text, rows, at, e, line)
	}
}

// ran is what Run tells of a text that has no fault.
func ran(t *testing.T, text string) string {
	t.Helper()
	out, line, e := script.Run(text)
	if line != 0 || e != api.OK {
		t.Fatalf("Run(%.300q): line %d, error %d", text, line, e)
	}
	return out
}

// judged is what Judged tells of a text that has no fault.
func judged(t *testing.T, text string) string {
	t.Helper()
	out, line, e := script.Judged(text)
	if line != 0 || e != api.OK {
		t.Fatalf("Judged(%.300q): line %d, error %d", text, line, e)
	}
	return out
}

// times is a text so many times over.
func times(n int, text string) string { return strings.Repeat(text, n) }

// turns are the words of n picks, of two threads in turn.
func turns(n int) string {
	var words strings.Builder
	for i := range n {
		words.WriteString(" " + strconv.Itoa(i%2))
	}
	return words.String()
}

// blank is a row that uses nothing, with something otherwise.
func blank(change func(r *api.Row)) api.Row { return fixture.With(fixture.Stutter(), change) }
