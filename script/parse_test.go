package script_test

import (
	"math"
	"slices"
	"strconv"
	"strings"
	"testing"

	"braid/api"
	"braid/fixture"
	"braid/machine"
	"braid/script"
)

// Chapter 19's example 1.
func TestExample1(t *testing.T) {
	faulty(t, "", 1, api.ErrLine)
	says(t, "objects 1\nmanager polite 3\ndraws\nthread\npicks\n",
		machine.Script{Objects: []int64{1}, Manager: api.Polite, Patience: 3, Threads: [][]machine.Job{nil}})
}

// Chapter 19's example 2, and those of P19.3.
func TestExample2(t *testing.T) {
	faulty(t, "objects 1 x", 1, api.ErrOperand)
	faulty(t, "manager polite 3", 1, api.ErrLine)
	faulty(t, "objects\nobjects", 2, api.ErrLine)
	faulty(t, "objects\nmanager karma 0", 2, api.ErrOperand)
	faulty(t, "objects\nmanager polite 0 x", 2, api.ErrOperand)
	faulty(t, "objects\nmanager polite 5 x", 2, api.ErrExtra)
	faulty(t, "objects\nmanager polite", 2, api.ErrMissing)
	faulty(t, "objects\nmanager Polite", 2, api.ErrOperand)
}

// Chapter 19's example 3.
func TestExample3(t *testing.T) {
	s := plainHead(nil)
	s.Picks = []int64{1, 1, 1, 0, 2}
	says(t, head+"thread\npicks 1*3 0 2*1", s)
	prints(t, s, head+"thread\npicks 1*3 0 2\n")
	for _, word := range []string{"1*0", "*3", "1*3*2"} {
		faulty(t, head+"thread\npicks "+word, 5, api.ErrOperand)
	}
}

func TestLimitsOfTheLayer(t *testing.T) {
	if api.MaxMap != 16 || api.MaxPatience != 4096 || api.MaxDraws != 1024 || api.MaxThreads != 6 || api.MaxJobs != 8 ||
		api.MaxPicks != 4096 || api.MaxScript != 65536 || api.ErrLine != 190 {
		t.Error("a limit, or ErrLine, is another one")
	}
}

// oddNumbers are words that are no numbers, or none of an int64.
var oddNumbers = []string{
	"x", "+1", "01", "-0", "-", "--1", "00", "-01", "1.0", "1e3", "0x1", "1_0", "9223372036854775808", "-9223372036854775809",
	"99999999999999999999999", "1,2", "1-", "\xff", "1\x00", "١",
}

// P19.2: the shared numbers: none, some, as many as may be, and one more.
func TestObjects(t *testing.T) {
	behind := "\nmanager polite 5\ndraws\nthread\npicks"
	s := machine.Script{Patience: 5, Threads: [][]machine.Job{nil}}
	says(t, "objects"+behind, s)
	s.Objects = []int64{0, -1, math.MaxInt64, math.MinInt64, 7, 7}
	says(t, "objects 0 -1 9223372036854775807 -9223372036854775808 7 7"+behind, s)
	s.Objects = slices.Repeat([]int64{3}, api.MaxMap)
	says(t, "objects"+times(16, " 3")+behind, s)
	faulty(t, "objects"+times(17, " 3")+behind, 1, api.ErrObjects)
	faulty(t, "objects"+times(400, " 3")+behind, 1, api.ErrObjects)
	for _, odd := range oddNumbers {
		faulty(t, "objects "+odd+behind, 1, api.ErrOperand)
		faulty(t, "objects 1 2 "+odd+" 4"+behind, 1, api.ErrOperand)
		faulty(t, "objects"+times(16, " 3")+" "+odd+behind, 1, api.ErrOperand)
		faulty(t, "objects"+times(17, " 3")+" "+odd+behind, 1, api.ErrObjects)
		faulty(t, "objects "+odd+times(20, " 3")+behind, 1, api.ErrOperand)
	}
}

// P19.2: each manager by its name, and no other; its patience.
func TestManagers(t *testing.T) {
	for kind, name := range []string{"polite", "karma", "polka", "greedy", "oracle"} {
		for _, patience := range []int{1, 2, 4095, api.MaxPatience} {
			s := machine.Script{Manager: kind, Patience: patience, Threads: [][]machine.Job{nil}}
			says(t, "objects\nmanager "+name+" "+strconv.Itoa(patience)+"\ndraws\n"+tail, s)
		}
		for _, odd := range []string{strings.ToUpper(name), strings.ToUpper(name[:1]) + name[1:], name[1:], name + "s", name + "1", "5", name + ":", name[:3]} {
			faulty(t, "objects\nmanager "+odd+" 5\ndraws\n"+tail, 2, api.ErrOperand)
			faulty(t, "objects\nmanager "+odd, 2, api.ErrOperand)
			faulty(t, "objects\nmanager "+odd+" x y", 2, api.ErrOperand)
		}
		for _, odd := range append(oddNumbers, "0", "-1", "4097", "9223372036854775807", "-9223372036854775808", "4294967297", name) {
			faulty(t, "objects\nmanager "+name+" "+odd+"\ndraws\n"+tail, 2, api.ErrOperand)
			faulty(t, "objects\nmanager "+name+" "+odd+" 5\ndraws\n"+tail, 2, api.ErrOperand)
		}
		faulty(t, "objects\nmanager "+name+"\ndraws\n"+tail, 2, api.ErrMissing)
		for _, more := range []string{"5", "x", name, "draws", "0"} {
			faulty(t, "objects\nmanager "+name+" 5 "+more+"\ndraws\n"+tail, 2, api.ErrExtra)
			faulty(t, "objects\nmanager "+name+" 5 "+more+" "+more+"\ndraws\n"+tail, 2, api.ErrExtra)
		}
	}
	faulty(t, "objects\nmanager\ndraws\n"+tail, 2, api.ErrMissing)
	faulty(t, "objects\nmanager 5 polite\ndraws\n"+tail, 2, api.ErrOperand)
}

// P19.2: the draws: none, some, as many as may be, and one more.
func TestDraws(t *testing.T) {
	ahead, behind := "objects 1\nmanager polite 5\ndraws", "\n"+tail
	s := plainHead(nil)
	s.Draws = []int64{math.MinInt64, 0, -1, math.MaxInt64, 5}
	says(t, ahead+" -9223372036854775808 0 -1 9223372036854775807 5"+behind, s)
	s.Draws = slices.Repeat([]int64{-2}, api.MaxDraws)
	says(t, ahead+times(1024, " -2")+behind, s)
	faulty(t, ahead+times(1025, " -2")+behind, 3, api.ErrDraws)
	for _, odd := range oddNumbers {
		faulty(t, ahead+" "+odd+behind, 3, api.ErrOperand)
		faulty(t, ahead+times(1024, " -2")+" "+odd+behind, 3, api.ErrOperand)
		faulty(t, ahead+times(1025, " -2")+" "+odd+behind, 3, api.ErrDraws)
	}
}

// P19.2: threads, as many as may be and one more, with jobs and without.
func TestThreads(t *testing.T) {
	for n := 1; n <= api.MaxThreads; n++ {
		says(t, head+times(n, "thread\n")+"picks", plainHead(make([][]machine.Job, n)...))
	}
	size := machine.Job{Kind: api.JobSize}
	says(t, head+"thread\nthread\nsize\nthread\nsize\nsize\npicks", plainHead(nil, []machine.Job{size}, []machine.Job{size, size}))
	faulty(t, head+times(7, "thread\n")+"picks", 10, api.ErrThreads)
	faulty(t, head+times(7, "thread\nsize\n")+"picks", 16, api.ErrThreads)
	faulty(t, head+"thread x\npicks", 4, api.ErrExtra)
	faulty(t, head+"thread\nthread 1 2\npicks", 5, api.ErrExtra)
	faulty(t, head+times(6, "thread\n")+"thread x\npicks", 10, api.ErrThreads)
	faulty(t, head+times(6, "thread\n")+"thread # x\n", 10, api.ErrThreads)
}

// jobLines are lines of each kind of job, with the job.
var jobLines = []struct {
	text string
	job  machine.Job
}{
	{"program\nend", machine.Job{}},
	{"insert 5", machine.Job{Kind: api.JobInsert, Key: 5}},
	{"insert -9223372036854775808", machine.Job{Kind: api.JobInsert, Key: math.MinInt64}},
	{"remove 0", machine.Job{Kind: api.JobRemove}},
	{"remove 9223372036854775807", machine.Job{Kind: api.JobRemove, Key: math.MaxInt64}},
	{"contains -1", machine.Job{Kind: api.JobContains, Key: -1}},
	{"least", machine.Job{Kind: api.JobLeast}},
	{"size", machine.Job{Kind: api.JobSize}},
	{"move 5 -6", machine.Job{Kind: api.JobMove, Key: 5, Other: -6}},
	{"move 3 3", machine.Job{Kind: api.JobMove, Key: 3, Other: 3}},
	{"move -9223372036854775808 9223372036854775807", machine.Job{Kind: api.JobMove, Key: math.MinInt64, Other: math.MaxInt64}},
}

// P19.2: each kind of job, alone, as many as may be of a thread, and one more.
func TestJobs(t *testing.T) {
	for _, c := range jobLines {
		says(t, head+"thread\n"+c.text+"\npicks", plainHead([]machine.Job{c.job}))
		says(t, head+"thread\n"+times(8, c.text+"\n")+"thread\n"+c.text+"\npicks",
			plainHead(slices.Repeat([]machine.Job{c.job}, api.MaxJobs), []machine.Job{c.job}))
		first, _, _ := strings.Cut(c.text, " ")
		first = strings.TrimSuffix(first, "\nend")
		for _, line := range []string{c.text, first, first + " x", first + " 1 2 3 4", first + " x y z"} {
			faulty(t, head+"thread\n"+times(8, "least\n")+line+"\npicks", 13, api.ErrJobs)
			faulty(t, head+"thread\nsize\nthread\n"+times(8, "least\n")+line, 15, api.ErrJobs)
			faulty(t, head+"thread\n"+times(8, "program\nend\n")+line, 21, api.ErrJobs)
		}
		for _, other := range jobLines {
			says(t, head+"thread\n"+c.text+"\n"+other.text+"\npicks", plainHead([]machine.Job{c.job, other.job}))
		}
	}
}

// P19.3: the words of a call: each key that is none, too many, too few.
func TestKeys(t *testing.T) {
	for _, call := range []string{"insert", "remove", "contains"} {
		faulty(t, head+"thread\n"+call+"\npicks", 5, api.ErrMissing)
		faulty(t, head+"thread\n"+call+" 1 2\npicks", 5, api.ErrExtra)
		faulty(t, head+"thread\n"+call+" 1 x\npicks", 5, api.ErrExtra)
		faulty(t, head+"thread\n"+call+" 1 2 3\npicks", 5, api.ErrExtra)
		for _, odd := range oddNumbers {
			faulty(t, head+"thread\n"+call+" "+odd+"\npicks", 5, api.ErrOperand)
			faulty(t, head+"thread\n"+call+" "+odd+" 2\npicks", 5, api.ErrOperand)
		}
	}
	for _, call := range []string{"least", "size", "program"} {
		for _, more := range append(oddNumbers, "1", "end", "1 2", "x y") {
			faulty(t, head+"thread\n"+call+" "+more+"\nend\npicks", 5, api.ErrExtra)
		}
	}
	faulty(t, head+"thread\nmove\npicks", 5, api.ErrMissing)
	faulty(t, head+"thread\nmove 1\npicks", 5, api.ErrMissing)
	faulty(t, head+"thread\nmove 1 2 3\npicks", 5, api.ErrExtra)
	faulty(t, head+"thread\nmove 1 2 x\npicks", 5, api.ErrExtra)
	for _, odd := range oddNumbers {
		faulty(t, head+"thread\nmove "+odd+"\npicks", 5, api.ErrOperand)
		faulty(t, head+"thread\nmove "+odd+" 2\npicks", 5, api.ErrOperand)
		faulty(t, head+"thread\nmove 1 "+odd+"\npicks", 5, api.ErrOperand)
		faulty(t, head+"thread\nmove 1 "+odd+" 3\npicks", 5, api.ErrOperand)
	}
}

// P19.2: picks one by one and in stretches, in one line and in several.
func TestPicks(t *testing.T) {
	ahead := head + "thread\n"
	for _, c := range []struct {
		text  string
		picks []int64
	}{
		{"picks", nil},
		{"picks\npicks\n\npicks # x", nil},
		{"picks 0", []int64{0}},
		{"picks -5*2 99 -9223372036854775808*1 9223372036854775807*3", []int64{-5, -5, 99, math.MinInt64, math.MaxInt64, math.MaxInt64, math.MaxInt64}},
		{"picks 0\npicks 1 1\n# x\npicks\n\npicks -1*2 0", []int64{0, 1, 1, -1, -1, 0}},
		{"picks 0*1", []int64{0}},
		{"picks 3*4096", slices.Repeat([]int64{3}, 4096)},
		{"picks" + times(4096, " 3"), slices.Repeat([]int64{3}, 4096)},
		{"picks 3*4095\npicks 3", slices.Repeat([]int64{3}, 4096)},
		{times(64, "picks 3*60 3*3 3\n"), slices.Repeat([]int64{3}, 4096)},
	} {
		s := plainHead(nil)
		s.Picks = c.picks
		says(t, ahead+c.text, s)
	}
}

// P19.3: one pick too many, wherever it stands, and words that are no picks.
func TestPicksThatMayNotBe(t *testing.T) {
	ahead := head + "thread\n"
	for _, text := range []string{
		"picks 0*4096 0", "picks 0*4096 0*1", "picks 0*4095 0*2", "picks 0 0*4096", "picks 0*4096 0*4096", "picks" + times(4097, " 0"),
		"picks 0*4096 0 x", "picks 0*4090 1*7 x",
	} {
		faulty(t, ahead+text, 5, api.ErrPicks)
	}
	faulty(t, ahead+"picks 0*4096\npicks\npicks 0", 7, api.ErrPicks)
	faulty(t, ahead+"picks 0\n\npicks 0*4096", 7, api.ErrPicks)
	faulty(t, ahead+times(65, "picks 3*60 3*3 3\n"), 69, api.ErrPicks)
	for _, odd := range append(oddNumbers,
		"*", "1*", "*1", "1*0", "1*-1", "1*4097", "1*x", "x*1", "1*01", "1*+1", "01*1", "-0*1", "1**2", "1*3*2", "1*2*", "1*9223372036854775807",
		"1*9223372036854775808", "9223372036854775808*1", "1*-9223372036854775808", "1*4294967297", "1x3", "1*1.0",
	) {
		faulty(t, ahead+"picks "+odd, 5, api.ErrOperand)
		faulty(t, ahead+"picks 0 1 "+odd+" 2", 5, api.ErrOperand)
		faulty(t, ahead+"picks 0*4096 "+odd, 5, api.ErrOperand)
		faulty(t, ahead+"picks 0*4096\npicks "+odd+" 0", 6, api.ErrOperand)
		faulty(t, ahead+"picks 0*4096 0 "+odd, 5, api.ErrPicks)
	}
}

// P19.3: a text as long as may be, and one byte more, ahead of every other error.
func TestLongTexts(t *testing.T) {
	text := head + tail + "#"
	text += times(api.MaxScript-len(text), "x")
	says(t, text, plainHead(nil))
	faulty(t, text+"x", 0, api.ErrLong)
	faulty(t, times(api.MaxScript, "x"), 1, api.ErrLine)
	faulty(t, times(api.MaxScript+1, "x"), 0, api.ErrLong)
	faulty(t, times(api.MaxScript, "\n"), api.MaxScript+1, api.ErrLine)
	faulty(t, times(api.MaxScript+1, "\n"), 0, api.ErrLong)
	faulty(t, times(api.MaxScript, "objects "), 0, api.ErrLong)
	faulty(t, times(api.MaxScript, " ")+"#", 0, api.ErrLong)
}

// P19.3: each of the five lines missing, with the number of the last line.
func TestMissingLines(t *testing.T) {
	lines := []string{"objects 1", "manager polite 5", "draws", "thread", "picks"}
	for n := range lines {
		text := strings.Join(lines[:n], "\n")
		faulty(t, text, max(1, n), api.ErrLine)
		faulty(t, text+"\n", max(2, n+1), api.ErrLine)
		faulty(t, text+"\n# x\n\n\t\n", max(5, n+4), api.ErrLine)
	}
	faulty(t, head+"thread\nsize\nthread", 6, api.ErrLine)
	faulty(t, head+"thread\nprogram\nend\n", 7, api.ErrLine)
	for n := range len(lines) - 1 { // one left out in the midst of them: the next one is out of its place
		text := strings.Join(slices.Concat(lines[:n], lines[n+1:]), "\n")
		faulty(t, text, n+1, api.ErrLine)
	}
	says(t, strings.Join(lines, "\n"), plainHead(nil))
}

// P19.3: each first word at each place: what may stand there, and all else, whatever words stand behind it.
func TestPlacesOfLines(t *testing.T) {
	places := []struct{ text, may string }{
		{"", "objects"},
		{"objects 1\n", "manager"},
		{"objects 1\nmanager polite 5\n", "draws"},
		{head, "thread"},
		{head + "thread\n", "thread picks program insert remove contains least size move"},
		{head + "thread\nprogram\nend\n", "thread picks program insert remove contains least size move"},
		{head + "thread\nsize\nthread\nmove 1 2\n", "thread picks program insert remove contains least size move"},
		{head + "thread\nsize\npicks\n", "picks"},
		{head + "thread\npicks 0\npicks 1\n", "picks"},
	}
	for _, p := range places {
		line := strings.Count(p.text, "\n") + 1
		for _, text := range []string{
			"objects", "manager polite 5", "draws", "thread", "program\nend", "insert 1", "remove 1", "contains 1", "least", "size", "move 1 2", "picks",
			"end", "stop", "Objects", "object", "Thread", "threads", "pick", "programs", "x:", "1", "-", "get r1 @0", "none",
		} {
			first := strings.Fields(text)[0]
			may := slices.Contains(strings.Fields(p.may), first)
			_, at, e := script.Parse(p.text + text + "\n")
			if may && at == line {
				t.Errorf("%q behind %q: line %d, error %d", text, p.text, at, e)
			}
			if !may {
				for _, more := range []string{"", " x", " 0 0 0 0", times(5000, " 1"), " # x"} {
					faulty(t, p.text+first+more+"\n", line, api.ErrLine)
				}
			}
		}
	}
}

// P19.3: a job out of its place, or a thread, is no job or thread too many.
func TestPlacesAheadOfNumbers(t *testing.T) {
	full := head + times(6, "thread\n"+times(8, "size\n")) + "picks\n"
	says(t, full, plainHead(slices.Repeat([][]machine.Job{slices.Repeat([]machine.Job{{Kind: api.JobSize}}, 8)}, 6)...))
	faulty(t, full+"size\n", 59, api.ErrLine)
	faulty(t, full+"thread\n", 59, api.ErrLine)
	faulty(t, full+"program\nx", 59, api.ErrLine)
	faulty(t, head+times(6, "thread\n"+times(8, "size\n"))+"stop\n", 58, api.ErrLine)
	faulty(t, head+times(6, "thread\n"+times(8, "size\n"))+"end\n", 58, api.ErrLine)
}

// P19.3: the first line with a fault is the one that is told.
func TestTheFirstLine(t *testing.T) {
	faulty(t, "objects x\nmanager x\ndraws x\nstop", 1, api.ErrOperand)
	faulty(t, "objects\nmanager x\ndraws x\nstop", 2, api.ErrOperand)
	faulty(t, "objects\nmanager polite 5\ndraws x\nstop", 3, api.ErrOperand)
	faulty(t, "objects\nmanager polite 5\ndraws\nstop\nthread x", 4, api.ErrLine)
	faulty(t, "objects\nmanager polite 5\ndraws\nthread x\nstop", 4, api.ErrExtra)
	faulty(t, head+"thread\ninsert\nstop", 5, api.ErrMissing)
	faulty(t, head+"thread\nprogram\nget\nend\ninsert\nstop", 6, api.ErrMissing)
	faulty(t, head+"thread\npicks 1*0\nstop", 5, api.ErrOperand)
	faulty(t, head+"thread\npicks\npicks 0*4096 0\nstop", 6, api.ErrPicks)
	faulty(t, head+"thread\npicks\nstop\npicks x", 6, api.ErrLine)
}

// Every script that Parse answers may be, and its text is its own.
func TestParseOfPrint(t *testing.T) {
	for _, text := range []string{head + tail, head + "thread\nprogram\n" + adds + "end\nleast\nthread\npicks 0 1*2"} {
		s := reads(t, text)
		out, e := script.Print(s)
		if e != api.OK || !fixture.SameScript(reads(t, out), s) {
			t.Errorf("%q, %d", out, e)
		}
	}
}
