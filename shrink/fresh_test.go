package shrink_test

import (
	"runtime"
	"slices"
	"testing"

	"braid/api"
	"braid/fixture"
	"braid/lang"
	"braid/machine"
	"braid/shrink"
)

// roomy is a script with room behind each of its lists; two of its jobs have one program, and so have two of its threads
// one list of jobs. Picks and jobs can go, and some cannot.
func roomy(t *testing.T) machine.Script {
	t.Helper()
	code := append(make([]lang.Instr, 0, 9), fixture.Program(t, "put @0 1")...)
	writes := append(make([]machine.Job, 0, 9), machine.Job{Program: code}, machine.Job{Program: code}, insert(4))
	s := script(nil, writes, writes, thread(t, "quit", adds))
	s.Patience = 1
	s.Threads = append(make([][]machine.Job, 0, 9), s.Threads...)
	s.Objects = append(make([]int64, 0, 9), 5, 7)
	s.Draws = append(make([]int64, 0, 9), 3, 1, 4)
	s.Picks = append(make([]int64, 0, 99), list(2, 2, 0, 4, 7, 1, 1, 12, 2, 3, 0, 5, 1, 4)...)
	return s
}

// scribbled writes all that a script has full, the room behind it too.
func scribbled(s machine.Script) {
	fixture.Full(s.Objects, 99)
	fixture.Full(s.Draws, 99)
	fixture.Full(s.Picks, 2)
	scribbledJobs(s.Threads)
}

func scribbledJobs(threads [][]machine.Job) {
	for _, jobs := range threads {
		for _, j := range jobs {
			fixture.Full(j.Program, lang.Instr{Code: lang.Quit})
		}
	}
	for _, jobs := range threads {
		fixture.Full(jobs, machine.Job{Kind: 99})
	}
	fixture.Full(threads, nil)
}

// answers are what all calls tell of each wish.
type answers struct {
	is      [api.Wishes]bool
	picks   [api.Wishes][]int64
	threads [api.Wishes][][]machine.Job
	errors  [api.Wishes][3]api.Errno
}

func ask(s machine.Script) answers {
	var a answers
	for wish := range api.Wishes {
		a.is[wish], a.errors[wish][0] = shrink.Has(s, wish)
		a.picks[wish], a.errors[wish][1] = shrink.Picks(s, wish)
		a.threads[wish], a.errors[wish][2] = shrink.Jobs(s, wish)
	}
	return a
}

func (a answers) same(b answers) bool {
	for wish := range api.Wishes {
		if !slices.Equal(a.picks[wish], b.picks[wish]) || !sameThreads(a.threads[wish], b.threads[wish]) {
			return false
		}
	}
	return a.is == b.is && a.errors == b.errors
}

// sound looks that the answers are those of the plain calls, and that there is something in them.
func sound(t *testing.T, s machine.Script, a answers) {
	t.Helper()
	had := 0
	for wish, is := range a.is {
		if is != plainHas(t, s, wish) {
			t.Fatalf("Has(%d) = %v", wish, is)
		}
		if !is {
			continue
		}
		had++
		picks, _ := plainPicks(t, s, wish)
		threads, _ := plainJobs(t, s, wish)
		if !slices.Equal(a.picks[wish], picks) || !sameThreads(a.threads[wish], threads) || jobsOf(threads) == jobsOf(s.Threads) {
			t.Fatalf("wish %d: %v, %+v", wish, a.picks[wish], a.threads[wish])
		}
	}
	if had < 3 {
		t.Fatalf("%d wishes", had)
	}
}

// R3 and 22.4: no call changes what it is given: no list, no program, no room behind one of them.
func TestHandedIn(t *testing.T) {
	s, kept := roomy(t), roomy(t)
	sound(t, kept, ask(s))
	for _, wish := range []int{-1, api.Wishes} {
		refused(t, s, wish, api.ErrWish)
	}
	if !fixture.SameScript(s, kept) {
		t.Fatalf("the script is %+v", s)
	}
	whole := func(s machine.Script) machine.Script {
		s.Objects, s.Draws, s.Picks = s.Objects[:cap(s.Objects)], s.Draws[:cap(s.Draws)], s.Picks[:cap(s.Picks)]
		s.Threads = slices.Clone(s.Threads[:cap(s.Threads)])
		for p, jobs := range s.Threads {
			s.Threads[p] = slices.Clone(jobs[:cap(jobs)])
			for n, j := range s.Threads[p] {
				s.Threads[p][n].Program = j.Program[:cap(j.Program)]
			}
		}
		return s
	}
	if !fixture.SameScript(whole(s), whole(kept)) {
		t.Fatalf("the script is %+v", whole(s))
	}
}

// R3 and 22.4: what was answered is the caller's, its spare room too; what was handed in is not kept.
func TestAnswersAreNew(t *testing.T) {
	s := roomy(t)
	want, a, b := ask(roomy(t)), ask(s), ask(s)
	sound(t, s, want)
	for wish := range api.Wishes {
		fixture.Full(a.picks[wish], 99)
		scribbledJobs(a.threads[wish])
	}
	if !b.same(want) || !ask(s).same(want) || !fixture.SameScript(s, roomy(t)) {
		t.Errorf("%+v, then %+v", b, ask(s))
	}
	scribbled(s)
	if !b.same(want) || !ask(roomy(t)).same(want) {
		t.Errorf("%+v, then %+v", b, ask(roomy(t)))
	}
}

// R3 and 22.4: no two lists of one answer share anything, where two of the script do.
func TestNoTwoListsShare(t *testing.T) {
	// both jobs of thread 0 are needed, that of thread 1 too, and all three have one program
	inc := program(t, "take r1 @0\nadd r1 r1 1\nput @0 r1")
	s := counts(t, 18, inc, inc)
	for range 2 {
		threads, e := shrink.Jobs(s, api.WishCommit)
		if e != api.OK || jobsOf(threads) != 3 {
			t.Fatalf("%+v, %d", threads, e)
		}
		fixture.Full(threads[0][0].Program, lang.Instr{Code: lang.Quit})
		if !sameThreads([][]machine.Job{threads[0][1:]}, [][]machine.Job{{inc}}) || !sameThreads([][]machine.Job{s.Threads[0]}, [][]machine.Job{{inc, inc}}) {
			t.Fatalf("%+v", threads)
		}
		fixture.Full(threads[0][:1], machine.Job{Kind: 99})
		if !sameThreads(threads[1:], s.Threads[1:]) {
			t.Fatalf("%+v", threads)
		}
	}
	shared := thread(t, "", "")
	s = script(list(0, 2, 1, 2), shared, shared)
	threads, e := shrink.Jobs(s, api.WishCommit)
	if e != api.OK || jobsOf(threads) != 2 {
		t.Fatalf("%+v, %d", threads, e)
	}
	fixture.Full(threads[0], machine.Job{Kind: 99})
	if !sameThreads(threads[1:], [][]machine.Job{thread(t, "")}) || !sameThreads(s.Threads, [][]machine.Job{thread(t, "", ""), thread(t, "", "")}) {
		t.Fatalf("%+v", threads)
	}
}

// Where nothing has gone, what is answered is new all the same.
func TestNewWhereNothingGoes(t *testing.T) {
	s := commits(t)
	picks, e := shrink.Picks(s, api.WishCommit)
	threads, f := shrink.Jobs(s, api.WishCommit)
	if !slices.Equal(picks, s.Picks) || !sameThreads(threads, s.Threads) || e != api.OK || f != api.OK {
		t.Fatalf("%v, %d, %+v, %d", picks, e, threads, f)
	}
	fixture.Full(picks, 99)
	scribbledJobs(threads)
	if !fixture.SameScript(s, commits(t)) {
		t.Errorf("%+v", s)
	}
}

// R4, R6: the same answers, however often they are asked for and by how many at once, and no goroutine is left.
func TestTheSameAgain(t *testing.T) {
	s := roomy(t)
	want := ask(roomy(t))
	sound(t, s, want)
	fixture.OverAgain(t, runtime.NumGoroutine, 10, func() {
		if got := ask(s); !got.same(want) {
			t.Errorf("%+v", got)
		}
	})
}
