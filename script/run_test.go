package script_test

import (
	"strconv"
	"strings"
	"testing"

	"braid/api"
	"braid/machine"
	"braid/script"
)

const (
	counter = "objects 5\nmanager polite 3\ndraws\nthread\nprogram\n" + adds + "end\npicks 0*20\n"
	skew    = "program\nget r1 @0\nif r1 != 0 e\nput @1 1\ne: done r1\nend\n"
	back    = "program\nget r1 @1\nif r1 != 0 e\nput @0 1\ne: done r1\nend\n" // skew the other way round
	good    = "serial good\nopaque good\nset good\nlist good\n"
)

// steps looks that a thread's steps in what Run told are these: of each, divided by a comma and a blank, its number, its kind and
// words that its line has too.
func steps(t *testing.T, out string, thread int, list string) {
	t.Helper()
	lines := strings.Split(out, "\n")
	for _, step := range strings.Split(list, ", ") {
		words := strings.Fields(step)
		n, err := strconv.Atoi(words[0])
		if err != nil || n >= len(lines) {
			t.Fatalf("%q", step)
		}
		ahead := words[0] + " t" + strconv.Itoa(thread) + " " + words[1] + " "
		if !strings.HasPrefix(lines[n], ahead) {
			t.Errorf("line %d is %q, want %q", n, lines[n], ahead)
		}
		for _, w := range words[2:] {
			if !strings.Contains(lines[n]+" ", " "+w+" ") {
				t.Errorf("line %d is %q, want %q", n, lines[n], step)
			}
		}
	}
}

// behind looks what stands behind the rows in what Run told.
func behind(t *testing.T, out, want string) {
	t.Helper()
	at := strings.LastIndex("\n"+out, "\nanswers\n")
	if at < 0 || out[at:] != want {
		t.Errorf("Run tells %q behind the rows, want %q", out[max(0, at):], want)
	}
}

// Chapter 19's example 4, which is DOC.md's example 1.
func TestExample4(t *testing.T) {
	want := "0 t0 begin job=0 try=1 attempt=1 cell=0 wrote=1 done\n" +
		"1 t0 point job=0 try=1 attempt=1 phase=read object=0 cell=3 done\n" +
		"2 t0 status job=0 try=1 attempt=1 phase=read object=0 enemy=0 cell=1 seen=2 wrote=2 done\n" +
		"3 t0 mine job=0 try=1 attempt=1 phase=read object=0 entry=0 cell=6 seen=1 wrote=1 done told value=5,0,0\n" +
		"4 t0 local job=0 try=1 attempt=1\n" +
		"5 t0 point job=0 try=1 attempt=1 phase=write object=0 cell=3 done\n" +
		"6 t0 status job=0 try=1 attempt=1 phase=write object=0 enemy=0 cell=1 seen=2 wrote=2 done\n" +
		"7 t0 acquire job=0 try=1 attempt=1 phase=write object=0 cell=3 wrote=2 done\n" +
		"8 t0 mine job=0 try=1 attempt=1 phase=write object=0 entry=0 cell=6 seen=1 wrote=1 done told value=5,0,0 puts put=6,0,0\n" +
		"9 t0 commit job=0 try=1 attempt=1 phase=final cell=6 seen=1 wrote=2 done end=commit\n" +
		"10 t0 return job=0 try=1 attempt=1\n"
	for n := 11; n < 20; n++ {
		want += strconv.Itoa(n) + " - stutter\n"
	}
	want += "answers\nt0 j0 commit 6 0 1\nfinals\n6,0,0\n0,-1,0\n"
	if out := ran(t, counter); out != want {
		t.Errorf("Run tells %q, want %q", out, want)
	}
	if out := judged(t, counter); out != good+"keys\n" {
		t.Errorf("Judged tells %q", out)
	}
}

// DOC.md's example 2.
func TestWholeExample2(t *testing.T) {
	one := "thread\nprogram\n" + adds + "end\n"
	text := "objects 5\nmanager polite 1\ndraws\n" + one + one + "picks" + turns(44)
	out := ran(t, text)
	steps(t, out, 0, "0 begin, 2 point, 4 status, 6 mine told value=5,0,0, 8 local, 10 point, 12 status, 14 acquire done, 16 mine puts put=6,0,0, 18 commit end=commit, 20 return")
	steps(t, out, 1, "1 begin, 3 point, 5 status, 7 mine told value=5,0,0, 9 local, 11 point, 13 status enemy=0, 15 acquire, 17 point, 19 status enemy=1 seen=2, 21 quit end=stale, "+
		"23 again try=2, 25 point, 27 status, 29 mine told value=6,0,0, 31 local, 33 point, 35 status, 37 acquire done, 39 mine puts put=7,0,0, 41 commit end=commit, 43 return")
	lines := strings.Split(out, "\n")
	if strings.Contains(lines[15], "done") {
		t.Errorf("%q is to be lost", lines[15])
	}
	for n := 22; n < 44; n += 2 {
		if lines[n] != strconv.Itoa(n)+" - stutter" {
			t.Errorf("line %d is %q", n, lines[n])
		}
	}
	behind(t, out, "answers\nt0 j0 commit 6 0 1\nt1 j0 commit 7 0 2\nfinals\n7,0,0\n0,-1,0\n")
	if out := judged(t, text); out != good+"keys\n" {
		t.Errorf("Judged tells %q", out)
	}
}

// DOC.md's example 3.
func TestWholeExample3(t *testing.T) {
	text := "objects 0 0\nmanager greedy 50\ndraws\nthread\n" + skew + "thread\n" + back + "picks" + turns(66)
	out := ran(t, text)
	steps(t, out, 0, "6 mine told, 14 acquire done, 16 point, 18 status, 20 mine puts put=1,0,0, 22 point phase=final, 24 status enemy=2 seen=1, 26 mine enemy=2, 28 look abort, 30 kill done, "+
		"32 point, 34 status seen=3, 36 commit end=commit, 38 return")
	steps(t, out, 1, "7 mine told, 15 acquire done, 17 point, 19 status, 21 mine puts put=1,0,0, 23 point phase=final, 25 status enemy=1 seen=1, 27 mine enemy=1, 29 look wait=4, 31 up done, "+
		"33 wait wait=3, 35 wait wait=2, 37 wait wait=1, 39 wait, 41 point, 43 status seen=2, 45 down done, 47 quit end=stale, 49 again try=2, 51 point, 53 status, 55 mine told value=1,0,0, "+
		"57 local, 59 point, 61 status, 63 commit end=commit, 65 return")
	behind(t, out, "answers\nt0 j0 commit 0 0 1\nt1 j0 commit 1 0 2\nfinals\n0,0,0\n1,0,0\n0,-1,0\n")
	if out := judged(t, text); out != good+"keys\n" {
		t.Errorf("Judged tells %q", out)
	}
}

// DOC.md's example 4.
func TestWholeExample4(t *testing.T) {
	text := "objects 0 0\nmanager polite 1\ndraws\nthread\n" + skew + "thread\n" + back + "picks" + turns(50)
	out := ran(t, text)
	for p := range 2 {
		var list []string
		for _, step := range []string{"28 look wait=1", "30 wait", "34 status seen=1", "38 look abort timeout", "40 kill done", "42 point", "44 status seen=3", "46 commit end=killed", "48 again try=2"} {
			n, rest, _ := strings.Cut(step, " ")
			at, _ := strconv.Atoi(n)
			list = append(list, strconv.Itoa(at+p)+" "+rest)
		}
		steps(t, out, p, strings.Join(list, ", "))
	}
	behind(t, out, "answers\nt0 j0 none 0 0 0\nt1 j0 none 0 0 0\nfinals\n0,0,0\n0,0,0\n0,-1,0\n")
	// left alone, thread 0 ends; then thread 1
	behind(t, ran(t, text+"\npicks 0*200\npicks 1*200"), "answers\nt0 j0 commit 0 0 2\nt1 j0 commit 1 0 2\nfinals\n0,0,0\n1,0,0\n0,-1,0\n")
	if out := judged(t, text); out != good+"keys\n" {
		t.Errorf("Judged tells %q", out)
	}
}

// DOC.md's example 5: released reads.
func TestWholeExample5(t *testing.T) {
	text := "objects 1 0\nmanager polite 3\ndraws\nthread\nprogram\nget r0 @0\ndrop @0\nput @1 r0\ndone r0\nend\n" +
		"thread\nprogram\nput @0 2\ndone 0\nend\npicks 0*5 1*20 0*20"
	out := ran(t, text)
	steps(t, out, 0, "3 mine told value=1,0,0, 4 release object=0 entry=0")
	behind(t, out, "answers\nt0 j0 commit 1 0 1\nt1 j0 commit 0 0 1\nfinals\n2,0,0\n1,0,0\n0,-1,0\n")
	if out := judged(t, text); out != good+"keys\n" {
		t.Errorf("Judged tells %q", out)
	}
}

// DOC.md's example 6: a bad object; and a program that gives itself up.
func TestWholeExample6(t *testing.T) {
	text := "objects 4\nmanager polite 3\ndraws\nthread\nprogram\nput @0 9\nget r1 @7\nend\nprogram\nput @0 9\nquit\nend\npicks 0*40"
	out := ran(t, text)
	if !strings.Contains(out, " quit job=0 ") || !strings.Contains(out, " end=bad\n") || !strings.Contains(out, " end=user\n") {
		t.Errorf("Run tells %q", out)
	}
	behind(t, out, "answers\nt0 j0 bad 0 0 1\nt0 j1 user 0 0 1\nfinals\n4,0,0\n0,-1,0\n")
	if out := judged(t, text); out != good+"keys\n" {
		t.Errorf("Judged tells %q", out)
	}
}

// DOC.md's example 7: the set.
func TestWholeExample7(t *testing.T) {
	text := "objects\nmanager polite 3\ndraws\nthread\ninsert 4\ninsert -9\ninsert 4\ncontains 4\nleast\nsize\nmove 4 5\npicks 0*400"
	behind(t, ran(t, text), "answers\nt0 j0 commit 0 1 1\nt0 j1 commit 0 1 1\nt0 j2 commit 0 0 1\nt0 j3 commit 0 1 1\n"+
		"t0 j4 commit -9 1 1\nt0 j5 commit 1 1 1\nt0 j6 commit 0 1 1\nfinals\n0,7,0\n4,-1,1\n-9,1,1\n0,-1,0\n0,-1,0\n0,-1,0\n0,-1,0\n5,-1,0\n")
	if out := judged(t, text); out != good+"keys 5\n" {
		t.Errorf("Judged tells %q", out)
	}
}

// DOC.md's example 8: two inserts of one key.
func TestWholeExample8(t *testing.T) {
	for _, picks := range []string{" 0*60 1*60", " 1*60 0*60", turns(120), turns(40), " 0*5" + turns(100), " 1*7 0*3" + turns(200), ""} {
		text := "objects\nmanager greedy 9\ndraws\nthread\ninsert 4\nthread\ninsert 4\npicks" + picks
		out := ran(t, text)
		answered, yes := strings.Count(out, " commit 0 "), strings.Count(out, " commit 0 1 ")
		if yes > 1 || answered == 2 && yes != 1 {
			t.Errorf("picks%s: %d answered, %d with yes", picks, answered, yes)
		}
		keys := "keys\n"
		if strings.Contains(out, "end=commit") {
			keys = "keys 4\n"
		}
		if out := judged(t, text); out != good+keys {
			t.Errorf("Judged tells %q", out)
		}
	}
}

// DOC.md's example 9: stutters.
func TestWholeExample9(t *testing.T) {
	out := ran(t, strings.Replace(counter, "0*20", "-1 0 99*2 0*9 7 0 0", 1))
	steps(t, out, 0, "1 begin, 4 point, 5 status, 6 mine, 12 commit, 14 return")
	for _, n := range []string{"0", "2", "3", "13", "15"} {
		if !strings.Contains("\n"+out, "\n"+n+" - stutter\n") {
			t.Errorf("no stutter at step %s: %q", n, out)
		}
	}
	behind(t, out, "answers\nt0 j0 commit 6 0 1\nfinals\n6,0,0\n0,-1,0\n")
}

// DOC.md's example 10: no picks.
func TestWholeExample10(t *testing.T) {
	text := "objects 5 -3\nmanager karma 1\ndraws 7\nthread\nprogram\n" + adds + "end\nsize\nthread\nthread\nleast\npicks"
	want := "answers\nt0 j0 none 0 0 0\nt0 j1 none 0 0 0\nt2 j0 none 0 0 0\nfinals\n5,0,0\n-3,0,0\n0,-1,0\n0,-1,0\n0,-1,0\n"
	if out := ran(t, text); out != want {
		t.Errorf("Run tells %q, want %q", out, want)
	}
	if out := judged(t, text); out != good+"keys\n" {
		t.Errorf("Judged tells %q", out)
	}
	if out := ran(t, "objects\nmanager oracle 1\ndraws\nthread\nthread\npicks"); out != "answers\nfinals\n0,-1,0\n" {
		t.Errorf("Run tells %q", out)
	}
}

// P19.7: an outcome is told only where the job has answered.
func TestAnswersUnderWay(t *testing.T) {
	for n, want := range []string{9: "none 0 0 0\nfinals\n5", 10: "none 0 0 0\nfinals\n6", 11: "commit 6 0 1\nfinals\n6"} {
		if want != "" {
			behind(t, ran(t, strings.Replace(counter, "0*20", "0*"+strconv.Itoa(n), 1)), "answers\nt0 j0 "+want+",0,0\n0,-1,0\n")
		}
	}
}

// P19.7: numbers at their ends, in answers and finals.
func TestFarNumbers(t *testing.T) {
	text := "objects " + least + " " + greatest + "\nmanager polite 3\ndraws\nthread\nprogram\nget r1 @1\nput @0 r1\nput @1 " + least + "\ndone " + least + "\nend\n" +
		"insert " + least + "\ninsert " + greatest + "\nleast\npicks 0*200"
	behind(t, ran(t, text), "answers\nt0 j0 commit "+least+" 0 1\nt0 j1 commit 0 1 1\nt0 j2 commit 0 1 1\nt0 j3 commit "+least+" 1 1\n"+
		"finals\n"+greatest+",0,0\n"+least+",0,0\n0,4,0\n"+least+",4,1\n"+greatest+",-1,0\n0,-1,0\n")
	if out := judged(t, text); out != good+"keys "+greatest+"\n" {
		t.Errorf("Judged tells %q", out)
	}
}

// P19.8: the keys, each once, in rising order; a call that has committed counts, whether it has answered or not.
func TestKeysOfJudged(t *testing.T) {
	text := "objects 1\nmanager greedy 9\ndraws\nthread\ninsert 4\ninsert " + least + "\ninsert 4\ninsert -1\nremove 4\ninsert 10\nmove 10 9\npicks 0*"
	for n, want := range map[int]string{
		1: "keys\n", 14: "keys\n", 15: "keys 4\n", 16: "keys 4\n", 400: "keys " + least + " -1 9\n", // it commits at step 14, and answers at 15
	} {
		if out := judged(t, text+strconv.Itoa(n)); out != good+want {
			t.Errorf("%d picks: Judged tells %q, want %q", n, out, want)
		}
	}
}

// P19.7 and P19.8: several threads and jobs, held against the layers below.
func TestRunAgainstTheMachine(t *testing.T) {
	for _, manager := range []string{"polite 2", "karma 3", "polka 3", "greedy 9", "oracle 5"} {
		text := "objects 0 0 3\nmanager " + manager + "\ndraws 5 -1 77 8 12\nthread\n" + skew + "insert 4\nmove 4 6\nthread\n" + back + "insert 4\nsize\n" +
			"thread\nleast\nprogram\n" + adds + "end\npicks" + turns(60) + "\npicks 2*9 0 2 1 0 2 1 2\npicks" + turns(40) + " 2*40 0*60 1*60"
		s := reads(t, text)
		r, e := machine.Run(s)
		if e != api.OK {
			t.Fatal(e)
		}
		if out := ran(t, text); out != plainRun(r) {
			t.Errorf("Run tells %q, want %q", out, plainRun(r))
		}
		if out := judged(t, text); out != plainJudged(t, s, r) {
			t.Errorf("Judged tells %q, want %q", out, plainJudged(t, s, r))
		}
		out := ran(t, text)
		rows, line, e := script.Rows(out[:strings.Index(out, "answers\n")])
		if line != 0 || e != api.OK || len(rows) != len(s.Picks) {
			t.Errorf("%d rows, line %d, error %d", len(rows), line, e)
		}
	}
}
