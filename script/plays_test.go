package script_test

import (
	"math"
	"slices"
	"strconv"
	"strings"
	"testing"

	"braid/api"
	"braid/fixture"
	"braid/machine"
	"braid/script"
)

// same lays Parse of a text beside the plain reader, and answers the error.
func same(t *testing.T, text string) api.Errno {
	t.Helper()
	want, at, why := plainParse(text)
	if why != api.OK {
		if s, line, e := script.Parse(text); line != at || e != why || !isZero(s) {
			t.Fatalf("Parse(%q) = %+v, line %d, error %d, want line %d, error %d", text, s, line, e, at, why)
		}
		return why
	}
	if got := reads(t, text); !fixture.SameScript(got, want) {
		t.Fatalf("Parse(%q) = %+v, want %+v", text, got, want)
	}
	return api.OK
}

// P19.4, P19.7, P19.8: thrown scripts: their texts, what is read of these, their runs, and what the judges find.
func TestThrownScripts(t *testing.T) {
	t.Parallel()
	d := fixture.NewDice()
	words := map[string]int{}
	for n := range 200 {
		s := fixture.Script(&d, n%api.Managers, fixture.Pick(&d, 0, 20, 150, 400))
		text := printed(t, s)
		if want := plainPrint(s); text != want {
			t.Fatalf("Print = %q, want %q", text, want)
		}
		says(t, text, s)
		same(t, text)
		r, e := machine.Run(s)
		if e != api.OK {
			t.Fatal(e)
		}
		out := ran(t, text)
		if want := plainRun(r); out != want {
			t.Fatalf("Run(%q) = %q, want %q", text, out, want)
		}
		for _, w := range strings.Fields(out) {
			words[w]++
		}
		if got, want := judged(t, text), plainJudged(t, s, r); got != want || !strings.HasPrefix(got, good) {
			t.Fatalf("Judged(%q) = %q, want %q", text, got, want)
		}
		if rows, line, e := script.Rows(script.Trace(r.Rows)); line != 0 || e != api.OK || !slices.Equal(rows, r.Rows) {
			t.Fatalf("Rows of Trace: line %d, error %d", line, e)
		}
	}
	for _, w := range append(kindNames, "done", "abort", "timeout", "told", "puts", "none", "commit", "user", "bad", "phase=read", "phase=write", "phase=final",
		"phase=quit", "end=commit", "end=user", "end=bad", "end=stale", "end=killed") {
		if words[w] < 3 {
			t.Errorf("%s was told %d times", w, words[w])
		}
	}
}

// dressed is a text with comments, blanks, tabs and empty lines that say nothing; its programs' too.
func dressed(d *fixture.Dice, text string) string {
	var out strings.Builder
	for _, line := range strings.Split(strings.TrimSuffix(text, "\n"), "\n") {
		if d.Below(9) == 0 {
			out.WriteString(fixture.Pick(d, "\n", " \t\n", "# x\n", "\t#\xff end\n", "#picks 1\n"))
		}
		line = strings.ReplaceAll(line, " ", fixture.Pick(d, " ", " ", "  ", "\t", " \t "))
		out.WriteString(fixture.Pick(d, "", "", " ", "\t ") + line + fixture.Pick(d, "", "", " ", "\t", "#", " # end", "#x") + "\n")
		if pick, many, is := strings.Cut(line, "picks "); is && pick == "" && d.Below(3) == 0 {
			out.WriteString("picks " + many + fixture.Pick(d, "", " 0", "\npicks", "\n\npicks -1*2") + "\n")
		}
	}
	return strings.TrimSuffix(out.String(), fixture.Pick(d, "", "\n"))
}

// oddWords stand where something else should.
var oddWords = strings.Fields("objects manager draws thread program end insert remove contains least size move picks polite karma Polite 0 1 -1 5 4096 4097 1*2 1*0 0*4096 " +
	"x x: +1 01 -0 * 9223372036854775807 9223372036854775808 -9223372036854775808*2 get quit r1 @0 done # #x end# \r \x00 \xff")

// changed is a text in which something small is otherwise.
func changed(d *fixture.Dice, text string) string {
	lines := strings.Split(text, "\n")
	i, j := d.Below(len(lines)), d.Below(len(lines))
	words := strings.Split(lines[i], " ")
	k := d.Below(len(words))
	switch d.Below(12) {
	case 0:
		lines = slices.Delete(lines, i, i+1)
	case 1:
		lines[i], lines[j] = lines[j], lines[i]
	case 2:
		lines = slices.Insert(lines, j, lines[i])
	case 3:
		lines = slices.Insert(lines, i, slices.Repeat([]string{fixture.Pick(d, "thread", "size", "move 1 2", "picks 0*4000", "program\nend")}, 1+d.Below(9))...)
	case 4:
		lines = lines[:i]
	case 5, 6, 7:
		words[k] = fixture.Pick(d, oddWords...)
		lines[i] = strings.Join(words, " ")
	case 8, 9:
		lines[i] = strings.Join(slices.Insert(words, k+d.Below(2), fixture.Pick(d, oddWords...)), " ")
	case 10:
		lines[i] = strings.Join(slices.Delete(words, k, k+1), " ")
	case 11:
		at := d.Below(len(text) + 1)
		return text[:at] + fixture.Pick(d, "", "\n", " ", "#", "x", "*", "1", "-", "\r", "\xff") + text[min(len(text), at+d.Below(2)):]
	}
	return strings.Join(lines, "\n")
}

// P19.1 to P19.3: texts that are dressed up and spoilt, beside the plain reader.
func TestThrownTexts(t *testing.T) {
	t.Parallel()
	d := fixture.NewDice()
	seen := map[api.Errno]int{}
	for n := range 6000 {
		s := fixture.Script(&d, n%api.Managers, fixture.Pick(&d, 0, 3, 10, 60))
		text := dressed(&d, printed(t, s))
		for range d.Below(4) {
			text = changed(&d, text)
		}
		seen[same(t, text)]++
	}
	for _, e := range []api.Errno{api.OK, api.ErrLine, api.ErrOperand, api.ErrExtra, api.ErrMissing, api.ErrThreads, api.ErrJobs, api.ErrPicks, api.ErrWord, api.ErrTwice, api.ErrLabel} {
		if seen[e] < 10 {
			t.Errorf("error %d was seen %d times", e, seen[e])
		}
	}
}

// Texts of any words, close to nothing and to one another.
func TestThrownWords(t *testing.T) {
	t.Parallel()
	d := fixture.NewDice()
	for range 20000 {
		lines := []string{"objects 1", "manager polite 5", "draws", "thread"}[:d.Below(5)]
		text := strings.Join(lines, "\n") + "\n"
		for range d.Below(12) {
			text += fixture.Pick(&d, oddWords...) + fixture.Pick(&d, " ", " ", "\n", "\n", "\t", "")
		}
		same(t, text)
	}
}

// anyRow is a row of which each field is blank, near to it, at an end, or anything.
func anyRow(d *fixture.Dice) api.Row {
	n := func(blank int) int {
		return fixture.Pick(d, blank, blank, blank, -1, 0, 1, 2, d.Below(25), -d.Below(25), math.MinInt, math.MaxInt)
	}
	is := func() bool { return d.Below(3) == 0 }
	value := func() api.Value { return api.Value{Num: int64(n(0)), Next: n(0), Dead: is()} }
	return api.Row{
		Step: n(0), Thread: n(-1), Job: n(-1), Try: n(0), Attempt: n(-1), Kind: n(3), Phase: n(0), Object: n(-1), Entry: n(-1), Enemy: n(-1), Cell: n(-1),
		Seen: fixture.Pick(d, int64(n(0)), fixture.Edge(d)), Wrote: fixture.Pick(d, int64(n(0)), fixture.Edge(d)), Done: is(), Abort: is(), Timeout: is(), Wait: n(0),
		Told: is(), Value: value(), Puts: is(), Put: value(), End: n(0),
	}
}

// P19.5 and P19.6: any rows have a text, which is theirs alone.
func TestThrownRows(t *testing.T) {
	t.Parallel()
	d := fixture.NewDice()
	for range 3000 {
		rows := make([]api.Row, d.Below(5))
		for i := range rows {
			rows[i] = anyRow(&d)
		}
		traced(t, plainTrace(rows), rows...)
	}
	for range 300 {
		rows := fixture.Rows(&d, d.Below(60))
		traced(t, plainTrace(rows), rows...)
	}
}

// P19.6: texts of rows in which something is otherwise are rows' just where a pattern says so, and then they are their
// rows' text.
func TestThrownTextsOfRows(t *testing.T) {
	t.Parallel()
	d := fixture.NewDice()
	good, bad := 0, 0
	for range 12000 {
		rows := make([]api.Row, 1+d.Below(3))
		for i := range rows {
			rows[i] = anyRow(&d)
		}
		text := script.Trace(rows)
		for range 1 + d.Below(2) {
			text = changedRows(&d, text)
		}
		at := plainRowsFault(text)
		got, line, e := script.Rows(text)
		if at != 0 {
			bad++
			noRows(t, text, at)
			continue
		}
		good++
		if line != 0 || e != api.OK || plainTrace(got) != text {
			t.Fatalf("Rows(%q) = %+v, line %d, error %d", text, got, line, e)
		}
	}
	if good < 1000 || bad < 3000 {
		t.Errorf("%d texts are rows', %d are not", good, bad)
	}
}

var oddFields = strings.Fields("job=-1 job=0 try=0 try=1 phase=read phase=?5 phase=?0 end=none end=?6 end=?5 told done seen=0 seen=-1 value=0,0,0 value=1,0,1 put=0,-1,0 put=0,0,2 " +
	"- t0 t-1 t-2 0 -0 01 ?18 ?17 stutter return none x wait=9223372036854775808 cell=-9223372036854775808 =")

func changedRows(d *fixture.Dice, text string) string {
	lines := strings.Split(text, "\n")
	i := d.Below(len(lines))
	words := strings.Split(lines[i], " ")
	k := d.Below(len(words))
	switch d.Below(8) {
	case 0, 1:
		words = slices.Delete(words, k, k+1)
	case 2, 3:
		words[k] = fixture.Pick(d, oddFields...)
	case 4:
		words = slices.Insert(words, k+d.Below(2), fixture.Pick(d, append(oddFields, "")...))
	case 5:
		if key, n, is := strings.Cut(words[k], "="); is {
			words[k] = key + "=" + fixture.Pick(d, strconv.Itoa(d.Below(20)-2), n+"0", n+",0", "-"+n, strings.TrimPrefix(n, "-"))
		}
	case 6:
		return fixture.Pick(d, strings.TrimSuffix(text, "\n"), text+"\n", "\n"+text, text+lines[0]+"\n", lines[0]+"\n")
	case 7:
		at := d.Below(len(text) + 1)
		return text[:at] + fixture.Pick(d, "", "", "\n", " ", "1", "-", "0", "=", "?", "t", "\xff") + text[min(len(text), at+d.Below(2)):]
	}
	lines[i] = strings.Join(words, " ")
	return strings.Join(lines, "\n")
}
