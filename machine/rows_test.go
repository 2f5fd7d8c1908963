package machine_test

import (
	"slices"
	"testing"

	"braid/api"
	"braid/fixture"
	"braid/machine"
)

// alone is chapter 14's example 1: one thread adds 1 to an object that holds 5.
func alone(t *testing.T, picks []int64) machine.Script {
	t.Helper()
	return machine.Script{Objects: []int64{5}, Threads: programs(t, one), Patience: 10, Picks: picks}
}

func TestAlone(t *testing.T) {
	r := run(t, alone(t, times(13, 0)))
	rows(t, r.Rows, `
0 0.0.1.1 none begin -1;-1;-1 @0 0>1
1 0.0.1.1 read point 0;-1;-1 @3 0>0
2 0.0.1.1 read status 0;-1;0 @1 2>2
3 0.0.1.1 read mine 0;0;-1 @6 1>1 tells 5
4 0.0.1.1 none local -1;-1;-1
5 0.0.1.1 write point 0;-1;-1 @3 0>0
6 0.0.1.1 write status 0;-1;0 @1 2>2
7 0.0.1.1 write acquire 0;-1;-1 @3 0>2
8 0.0.1.1 write mine 0;0;-1 @6 1>1 tells 5 puts 6
9 0.0.1.1 final commit -1;-1;-1 @6 1>2 end commit
10 0.0.1.1 none return -1;-1;-1
11 stutter
12 stutter
`)
	answers(t, r.Answers, []api.Answer{commit(6, 1)})
	values(t, r.Finals, api.Value{Num: 6}, end())
}

// Chapter 14's example 2.
func TestAloneWithAStutter(t *testing.T) {
	r := run(t, alone(t, []int64{0, 9, 0}))
	rows(t, r.Rows, `
0 0.0.1.1 none begin -1;-1;-1 @0 0>1
1 stutter
2 0.0.1.1 read point 0;-1;-1 @3 0>0
`)
	answers(t, r.Answers, []api.Answer{{}})
	values(t, r.Finals, api.Value{Num: 5}, end())
}

// DOC.md's example 2: a lost acquire, a stale attempt.
func TestTwoAdd(t *testing.T) {
	r := run(t, machine.Script{Objects: []int64{5}, Threads: programs(t, one, one), Patience: 1, Picks: turns(44, 0, 1)})
	rows(t, r.Rows, `
0 0.0.1.1 none begin -1;-1;-1 @0 0>1
1 1.0.1.2 none begin -1;-1;-1 @0 1>2
2 0.0.1.1 read point 0;-1;-1 @3 0>0
3 1.0.1.2 read point 0;-1;-1 @3 0>0
4 0.0.1.1 read status 0;-1;0 @1 2>2
5 1.0.1.2 read status 0;-1;0 @1 2>2
6 0.0.1.1 read mine 0;0;-1 @6 1>1 tells 5
7 1.0.1.2 read mine 0;0;-1 @9 1>1 tells 5
8 0.0.1.1 none local -1;-1;-1
9 1.0.1.2 none local -1;-1;-1
10 0.0.1.1 write point 0;-1;-1 @3 0>0
11 1.0.1.2 write point 0;-1;-1 @3 0>0
12 0.0.1.1 write status 0;-1;0 @1 2>2
13 1.0.1.2 write status 0;-1;0 @1 2>2
14 0.0.1.1 write acquire 0;-1;-1 @3 0>2
15 1.0.1.2 write acquire 0;-1;-1 @3 2>2 lost
16 0.0.1.1 write mine 0;0;-1 @6 1>1 tells 5 puts 6
17 1.0.1.2 write point 0;-1;-1 @3 2>2
18 0.0.1.1 final commit -1;-1;-1 @6 1>2 end commit
19 1.0.1.2 write status 0;-1;1 @6 2>2
20 0.0.1.1 none return -1;-1;-1
21 1.0.1.2 write quit -1;-1;-1 @9 1>3 end stale
22 stutter
23 1.0.2.3 none again -1;-1;-1
24 stutter
25 1.0.2.3 read point 0;-1;-1 @3 2>2
26 stutter
27 1.0.2.3 read status 0;-1;1 @6 2>2
28 stutter
29 1.0.2.3 read mine 0;0;-1 @11 1>1 tells 6
30 stutter
31 1.0.2.3 none local -1;-1;-1
32 stutter
33 1.0.2.3 write point 0;-1;-1 @3 2>2
34 stutter
35 1.0.2.3 write status 0;-1;1 @6 2>2
36 stutter
37 1.0.2.3 write acquire 0;-1;-1 @3 2>4
38 stutter
39 1.0.2.3 write mine 0;0;-1 @11 1>1 tells 6 puts 7
40 stutter
41 1.0.2.3 final commit -1;-1;-1 @11 1>2 end commit
42 stutter
43 1.0.2.3 none return -1;-1;-1
`)
	answers(t, r.Answers, []api.Answer{commit(6, 1)}, []api.Answer{commit(7, 2)})
	values(t, r.Finals, api.Value{Num: 7}, end())
}

// skew is DOC.md's example 3.
func skew(t *testing.T, manager, patience, picks int) machine.Script {
	t.Helper()
	threads := programs(t, "get r1 @0\nif r1 != 0 e\nput @1 1\ne: done r1", "get r1 @1\nif r1 != 0 e\nput @0 1\ne: done r1")
	return machine.Script{Objects: []int64{0, 0}, Threads: threads, Manager: manager, Patience: patience, Picks: turns(picks, 0, 1)}
}

// Each of two reads what the other one writes: a kill, a flag that goes up and down, waits, a quit that is lost.
func TestSkew(t *testing.T) {
	r := run(t, skew(t, api.Greedy, 50, 66))
	rows(t, r.Rows, `
0 0.0.1.1 none begin -1;-1;-1 @0 0>1
1 1.0.1.2 none begin -1;-1;-1 @0 1>2
2 0.0.1.1 read point 0;-1;-1 @3 0>0
3 1.0.1.2 read point 1;-1;-1 @4 1>1
4 0.0.1.1 read status 0;-1;0 @1 2>2
5 1.0.1.2 read status 1;-1;0 @1 2>2
6 0.0.1.1 read mine 0;0;-1 @7 1>1 tells 0
7 1.0.1.2 read mine 1;0;-1 @10 1>1 tells 0
8 0.0.1.1 none local -1;-1;-1
9 1.0.1.2 none local -1;-1;-1
10 0.0.1.1 write point 1;-1;-1 @4 1>1
11 1.0.1.2 write point 0;-1;-1 @3 0>0
12 0.0.1.1 write status 1;-1;0 @1 2>2
13 1.0.1.2 write status 0;-1;0 @1 2>2
14 0.0.1.1 write acquire 1;-1;-1 @4 1>3
15 1.0.1.2 write acquire 0;-1;-1 @3 0>4
16 0.0.1.1 write point 0;0;-1 @3 4>4
17 1.0.1.2 write point 1;0;-1 @4 3>3
18 0.0.1.1 write status 0;0;2 @10 1>1
19 1.0.1.2 write status 1;0;1 @7 1>1
20 0.0.1.1 write mine 1;-1;-1 @7 1>1 tells 0 puts 1
21 1.0.1.2 write mine 0;-1;-1 @10 1>1 tells 0 puts 1
22 0.0.1.1 final point 0;0;-1 @3 4>4
23 1.0.1.2 final point 1;0;-1 @4 3>3
24 0.0.1.1 final status 0;0;2 @10 1>1
25 1.0.1.2 final status 1;0;1 @7 1>1
26 0.0.1.1 final mine 0;0;2 @7 1>1
27 1.0.1.2 final mine 1;0;1 @10 1>1
28 0.0.1.1 final look 0;0;2 @11 0>0 abort
29 1.0.1.2 final look 1;0;1 @8 0>0 wait 4
30 0.0.1.1 final kill 0;0;2 @10 1>3
31 1.0.1.2 final up 1;0;1 @11 0>1
32 0.0.1.1 final point 0;0;-1 @3 4>4
33 1.0.1.2 final wait 1;0;1 wait 3
34 0.0.1.1 final status 0;0;2 @10 3>3
35 1.0.1.2 final wait 1;0;1 wait 2
36 0.0.1.1 final commit -1;-1;-1 @7 1>2 end commit
37 1.0.1.2 final wait 1;0;1 wait 1
38 0.0.1.1 none return -1;-1;-1
39 1.0.1.2 final wait 1;0;1
40 stutter
41 1.0.1.2 final point 1;0;-1 @4 3>3
42 stutter
43 1.0.1.2 final status 1;0;1 @7 2>2
44 stutter
45 1.0.1.2 final down 1;0;1 @11 1>0
46 stutter
47 1.0.1.2 final quit -1;-1;-1 @10 3>3 lost end stale
48 stutter
49 1.0.2.3 none again -1;-1;-1
50 stutter
51 1.0.2.3 read point 1;-1;-1 @4 3>3
52 stutter
53 1.0.2.3 read status 1;-1;1 @7 2>2
54 stutter
55 1.0.2.3 read mine 1;0;-1 @12 1>1 tells 1
56 stutter
57 1.0.2.3 none local -1;-1;-1
58 stutter
59 1.0.2.3 final point 1;0;-1 @4 3>3
60 stutter
61 1.0.2.3 final status 1;0;1 @7 2>2
62 stutter
63 1.0.2.3 final commit -1;-1;-1 @12 1>2 end commit
64 stutter
65 1.0.2.3 none return -1;-1;-1
`)
	answers(t, r.Answers, []api.Answer{commit(0, 1)}, []api.Answer{commit(1, 2)})
	values(t, r.Finals, api.Value{}, api.Value{Num: 1}, end())
}

// DOC.md's example 4: the same with no patience: they kill one another, again and again; either ends when it is left
// alone.
func TestSkewImpatient(t *testing.T) {
	r := run(t, skew(t, api.Polite, 1, 4000))
	ahead := run(t, skew(t, api.Greedy, 50, 28))
	if !slices.Equal(r.Rows[:28], ahead.Rows) {
		t.Fatalf("the manager is seen ahead of a conflict")
	}
	rows(t, r.Rows[28:52], `
28 0.0.1.1 final look 0;0;2 wait 1
29 1.0.1.2 final look 1;0;1 wait 1
30 0.0.1.1 final wait 0;0;2
31 1.0.1.2 final wait 1;0;1
32 0.0.1.1 final point 0;0;-1 @3 4>4
33 1.0.1.2 final point 1;0;-1 @4 3>3
34 0.0.1.1 final status 0;0;2 @10 1>1
35 1.0.1.2 final status 1;0;1 @7 1>1
36 0.0.1.1 final mine 0;0;2 @7 1>1
37 1.0.1.2 final mine 1;0;1 @10 1>1
38 0.0.1.1 final look 0;0;2 abort timeout
39 1.0.1.2 final look 1;0;1 abort timeout
40 0.0.1.1 final kill 0;0;2 @10 1>3
41 1.0.1.2 final kill 1;0;1 @7 1>3
42 0.0.1.1 final point 0;0;-1 @3 4>4
43 1.0.1.2 final point 1;0;-1 @4 3>3
44 0.0.1.1 final status 0;0;2 @10 3>3
45 1.0.1.2 final status 1;0;1 @7 3>3
46 0.0.1.1 final commit -1;-1;-1 @7 3>3 lost end killed
47 1.0.1.2 final commit -1;-1;-1 @10 3>3 lost end killed
48 0.0.2.3 none again -1;-1;-1
49 1.0.2.4 none again -1;-1;-1
50 0.0.2.3 read point 0;-1;-1 @3 4>4
51 1.0.2.4 read point 1;-1;-1 @4 3>3
`)
	answers(t, r.Answers, []api.Answer{{}}, []api.Answer{{}})
	values(t, r.Finals, api.Value{}, api.Value{}, end())
	for _, row := range r.Rows {
		if row.End != api.EndNone && row.End != api.EndKilled {
			t.Fatalf("%q", line(row))
		}
	}
	for p := range int64(2) {
		s := skew(t, api.Polite, 1, 60)
		s.Picks = append(s.Picks, times(60, p)...)
		if a := run(t, s).Answers[p][0]; a != commit(0, 2) {
			t.Errorf("thread %d left alone answers %+v", p, a)
		}
	}
}

// DOC.md's example 5: a read that was released does not stand in the way of the commit.
func TestReleased(t *testing.T) {
	threads := programs(t, "get r0 @0\ndrop @0\nput @1 r0\ndone r0", "put @0 2\ndone 0")
	picks := slices.Concat(times(5, 0), times(7, 1), times(7, 0))
	r := run(t, machine.Script{Objects: []int64{1, 0}, Threads: threads, Patience: 1, Picks: picks})
	rows(t, r.Rows, `
0 0.0.1.1 none begin -1;-1;-1 @0 0>1
1 0.0.1.1 read point 0;-1;-1 @3 0>0
2 0.0.1.1 read status 0;-1;0 @1 2>2
3 0.0.1.1 read mine 0;0;-1 @7 1>1 tells 1
4 0.0.1.1 none release 0;0;-1
5 1.0.1.2 none begin -1;-1;-1 @0 1>2
6 1.0.1.2 write point 0;-1;-1 @3 0>0
7 1.0.1.2 write status 0;-1;0 @1 2>2
8 1.0.1.2 write acquire 0;-1;-1 @3 0>3
9 1.0.1.2 write mine 0;-1;-1 @10 1>1 tells 1 puts 2
10 1.0.1.2 final commit -1;-1;-1 @10 1>2 end commit
11 1.0.1.2 none return -1;-1;-1
12 0.0.1.1 write point 1;-1;-1 @4 1>1
13 0.0.1.1 write status 1;-1;0 @1 2>2
14 0.0.1.1 write acquire 1;-1;-1 @4 1>4
15 0.0.1.1 write mine 1;-1;-1 @7 1>1 tells 0 puts 1
16 0.0.1.1 final commit -1;-1;-1 @7 1>2 end commit
17 0.0.1.1 none return -1;-1;-1
18 stutter
`)
	answers(t, r.Answers, []api.Answer{commit(1, 1)}, []api.Answer{commit(0, 1)})
	values(t, r.Finals, api.Value{Num: 2}, api.Value{Num: 1}, end())
}

// DOC.md's example 6.
func TestBadObject(t *testing.T) {
	r := run(t, machine.Script{Objects: []int64{4}, Threads: programs(t, "put @0 9\nget r1 @7"), Patience: 1, Picks: times(8, 0)})
	rows(t, r.Rows, `
0 0.0.1.1 none begin -1;-1;-1 @0 0>1
1 0.0.1.1 write point 0;-1;-1 @3 0>0
2 0.0.1.1 write status 0;-1;0 @1 2>2
3 0.0.1.1 write acquire 0;-1;-1 @3 0>2
4 0.0.1.1 write mine 0;-1;-1 @6 1>1 tells 4 puts 9
5 0.0.1.1 quit quit -1;-1;-1 @6 1>3 end bad
6 0.0.1.1 none return -1;-1;-1
7 stutter
`)
	answers(t, r.Answers, []api.Answer{{Outcome: api.EndBad, Tries: 1}})
	values(t, r.Finals, api.Value{Num: 4}, end())
}

// A program may name the shared numbers alone, and neither the head nor a node; with none shared it may name nothing.
func TestWhatAProgramMayName(t *testing.T) {
	for objects := range api.MaxMap + 1 {
		for _, c := range []struct {
			name int64
			bad  bool
		}{{-1, true}, {0, objects == 0}, {int64(objects) - 1, objects == 0}, {int64(objects), true}, {int64(objects) + 1, true}, {1 << 32, true}} {
			s := machine.Script{Objects: make([]int64, objects), Patience: 1, Picks: times(200, 0)}
			job := machine.Job{Program: fixture.Program(t, "get r1 @r0\ndone 3")}
			job.Program[0].Obj = fixture.Num(c.name)
			s.Threads = [][]machine.Job{{insert(1), job}, {insert(2)}}
			want := commit(3, 1)
			if c.bad {
				want = api.Answer{Outcome: api.EndBad, Tries: 1}
			}
			answers(t, run(t, s).Answers, []api.Answer{yes(0, 1), want}, []api.Answer{{}})
		}
	}
}

// Three jobs of one thread, under a manager that keeps priorities: a program, and two calls of the set with their nodes.
func TestJobsInARow(t *testing.T) {
	jobs := []machine.Job{program(t, one), insert(4), contains(4)}
	r := run(t, machine.Script{Objects: []int64{5}, Threads: [][]machine.Job{jobs}, Manager: api.Karma, Patience: 3, Picks: times(50, 0)})
	rows(t, r.Rows, `
0 0.0.1.1 none begin -1;-1;-1 @0 0>1
1 0.0.1.1 read point 0;-1;-1 @3 0>0
2 0.0.1.1 read status 0;-1;0 @1 2>2
3 0.0.1.1 read mine 0;-1;-1 @8 1>1
4 0.0.1.1 read boost 0;0;-1 @7 0>1 tells 5
5 0.0.1.1 none local -1;-1;-1
6 0.0.1.1 write point 0;-1;-1 @3 0>0
7 0.0.1.1 write status 0;-1;0 @1 2>2
8 0.0.1.1 write acquire 0;-1;-1 @3 0>4
9 0.0.1.1 write mine 0;-1;-1 @8 1>1
10 0.0.1.1 write boost 0;0;-1 @7 1>2 tells 5 puts 6
11 0.0.1.1 final commit -1;-1;-1 @8 1>2 end commit
12 0.0.1.1 none return -1;-1;-1
13 0.1.1.2 none begin -1;-1;-1 @0 1>2
14 0.1.1.2 read point 1;-1;-1 @4 1>1
15 0.1.1.2 read status 1;-1;0 @1 2>2
16 0.1.1.2 read mine 1;-1;-1 @11 1>1
17 0.1.1.2 read boost 1;0;-1 @10 0>1 tells 0,-1
18 0.1.1.2 write point 2;-1;-1 @5 2>2
19 0.1.1.2 write status 2;-1;0 @1 2>2
20 0.1.1.2 write acquire 2;-1;-1 @5 2>5
21 0.1.1.2 write point 1;0;-1 @4 1>1
22 0.1.1.2 write status 1;0;0 @1 2>2
23 0.1.1.2 write mine 2;-1;-1 @11 1>1
24 0.1.1.2 write boost 2;-1;-1 @10 1>2 tells 0,-1 puts 4,-1
25 0.1.1.2 write point 1;-1;-1 @4 1>1
26 0.1.1.2 write status 1;-1;0 @1 2>2
27 0.1.1.2 write acquire 1;-1;-1 @4 1>6
28 0.1.1.2 write mine 1;-1;-1 @11 1>1
29 0.1.1.2 write boost 1;0;-1 @10 2>3 tells 0,-1 puts 0,2
30 0.1.1.2 final commit -1;-1;-1 @11 1>2 end commit
31 0.1.1.2 none return -1;-1;-1
32 0.2.1.3 none begin -1;-1;-1 @0 2>3
33 0.2.1.3 read point 1;-1;-1 @4 6>6
34 0.2.1.3 read status 1;-1;2 @11 2>2
35 0.2.1.3 read mine 1;-1;-1 @14 1>1
36 0.2.1.3 read boost 1;0;-1 @13 0>1 tells 0,2
37 0.2.1.3 read point 2;-1;-1 @5 5>5
38 0.2.1.3 read status 2;-1;2 @11 2>2
39 0.2.1.3 read point 1;0;-1 @4 6>6
40 0.2.1.3 read status 1;0;2 @11 2>2
41 0.2.1.3 read mine 2;-1;-1 @14 1>1
42 0.2.1.3 read boost 2;1;-1 @13 1>2 tells 4,-1
43 0.2.1.3 final point 1;0;-1 @4 6>6
44 0.2.1.3 final status 1;0;2 @11 2>2
45 0.2.1.3 final point 2;1;-1 @5 5>5
46 0.2.1.3 final status 2;1;2 @11 2>2
47 0.2.1.3 final commit -1;-1;-1 @14 1>2 end commit
48 0.2.1.3 none return -1;-1;-1
49 stutter
`)
	answers(t, r.Answers, []api.Answer{commit(6, 1), yes(0, 1), yes(0, 1)})
	values(t, r.Finals, api.Value{Num: 6}, api.Value{Next: 2}, api.Value{Num: 4, Next: -1}, end())
}

// enemies are two that put into one object, under the manager whose verdict is the draw's: abort.
func enemies(t *testing.T, texts []string, picks ...[]int64) machine.Script {
	t.Helper()
	return machine.Script{
		Objects: []int64{5}, Threads: programs(t, texts...), Manager: api.Oracle, Patience: 3, Draws: []int64{0}, Picks: slices.Concat(picks...),
	}
}

// The enemy commits ahead of the kill.
func TestLostKill(t *testing.T) {
	r := run(t, enemies(t, []string{"put @0 6", "put @0 7"}, times(4, 1), times(5, 0), times(2, 1), times(8, 0), times(2, 1)))
	rows(t, r.Rows, `
0 1.0.1.1 none begin -1;-1;-1 @0 0>1
1 1.0.1.1 write point 0;-1;-1 @3 0>0
2 1.0.1.1 write status 0;-1;0 @1 2>2
3 1.0.1.1 write acquire 0;-1;-1 @3 0>2
4 0.0.1.2 none begin -1;-1;-1 @0 1>2
5 0.0.1.2 write point 0;-1;-1 @3 2>2
6 0.0.1.2 write status 0;-1;1 @6 1>1
7 0.0.1.2 write mine 0;-1;1 @9 1>1
8 0.0.1.2 write look 0;-1;1 abort
9 1.0.1.1 write mine 0;-1;-1 @6 1>1 tells 5 puts 7
10 1.0.1.1 final commit -1;-1;-1 @6 1>2 end commit
11 0.0.1.2 write kill 0;-1;1 @6 2>2 lost
12 0.0.1.2 write point 0;-1;-1 @3 2>2
13 0.0.1.2 write status 0;-1;1 @6 2>2
14 0.0.1.2 write acquire 0;-1;-1 @3 2>3
15 0.0.1.2 write mine 0;-1;-1 @9 1>1 tells 7 puts 6
16 0.0.1.2 final commit -1;-1;-1 @9 1>2 end commit
17 0.0.1.2 none return -1;-1;-1
18 stutter
19 1.0.1.1 none return -1;-1;-1
20 stutter
`)
	answers(t, r.Answers, []api.Answer{commit(0, 1)}, []api.Answer{commit(0, 1)})
	values(t, r.Finals, api.Value{Num: 6}, end())
}

// One that was killed finds it out as it is about to tell, and as it gives itself up.
func TestKilled(t *testing.T) {
	r := run(t, enemies(t, []string{"put @0 6", "put @0 7"}, times(4, 1), times(6, 0), times(2, 1)))
	rows(t, r.Rows, `
0 1.0.1.1 none begin -1;-1;-1 @0 0>1
1 1.0.1.1 write point 0;-1;-1 @3 0>0
2 1.0.1.1 write status 0;-1;0 @1 2>2
3 1.0.1.1 write acquire 0;-1;-1 @3 0>2
4 0.0.1.2 none begin -1;-1;-1 @0 1>2
5 0.0.1.2 write point 0;-1;-1 @3 2>2
6 0.0.1.2 write status 0;-1;1 @6 1>1
7 0.0.1.2 write mine 0;-1;1 @9 1>1
8 0.0.1.2 write look 0;-1;1 abort
9 0.0.1.2 write kill 0;-1;1 @6 1>3
10 1.0.1.1 write mine 0;-1;-1 @6 3>3 end killed
11 1.0.2.3 none again -1;-1;-1
`)
	answers(t, r.Answers, []api.Answer{{}}, []api.Answer{{}})
	values(t, r.Finals, api.Value{Num: 5}, end())
	r = run(t, enemies(t, []string{"put @0 6", "put @0 7\nquit"}, times(5, 1), times(6, 0), times(2, 1)))
	rows(t, r.Rows, `
0 1.0.1.1 none begin -1;-1;-1 @0 0>1
1 1.0.1.1 write point 0;-1;-1 @3 0>0
2 1.0.1.1 write status 0;-1;0 @1 2>2
3 1.0.1.1 write acquire 0;-1;-1 @3 0>2
4 1.0.1.1 write mine 0;-1;-1 @6 1>1 tells 5 puts 7
5 0.0.1.2 none begin -1;-1;-1 @0 1>2
6 0.0.1.2 write point 0;-1;-1 @3 2>2
7 0.0.1.2 write status 0;-1;1 @6 1>1
8 0.0.1.2 write mine 0;-1;1 @9 1>1
9 0.0.1.2 write look 0;-1;1 abort
10 0.0.1.2 write kill 0;-1;1 @6 1>3
11 1.0.1.1 quit quit -1;-1;-1 @6 3>3 lost end killed
12 1.0.2.3 none again -1;-1;-1
`)
}

// DOC.md's example 7: the six calls, one thread.
func TestSixCalls(t *testing.T) {
	jobs := []machine.Job{insert(4), insert(-9), insert(4), contains(4), least(), size(), move(4, 5)}
	r := run(t, machine.Script{Threads: [][]machine.Job{jobs}, Patience: 1, Picks: times(400, 0)})
	answers(t, r.Answers, []api.Answer{yes(0, 1), yes(0, 1), no(1), yes(0, 1), yes(-9, 1), yes(1, 1), yes(0, 1)})
	values(t, r.Finals, api.Value{Next: 7}, api.Value{Num: 4, Next: -1, Dead: true}, api.Value{Num: -9, Next: 1, Dead: true},
		end(), end(), end(), end(), api.Value{Num: 5, Next: -1})
}

// DOC.md's example 8: two inserts of one key.
func TestTwoInserts(t *testing.T) {
	d := fixture.NewDice()
	both := 0
	for n := range 1000 {
		s := machine.Script{Threads: [][]machine.Job{{insert(4)}, {insert(4)}}, Manager: n % api.Managers, Patience: 1 + d.Below(9), Picks: fixture.Picks(&d, 2, 20+d.Below(80))}
		r := run(t, s)
		a, b := r.Answers[0][0], r.Answers[1][0]
		if a.Yes && b.Yes || a.Outcome != 0 && b.Outcome != 0 && a.Yes == b.Yes {
			t.Fatalf("script %d: both answer: %+v, %+v", n, a, b)
		}
		if a.Outcome != 0 && b.Outcome != 0 {
			both++
		}
	}
	if both < 100 {
		t.Errorf("both answered in %d runs", both)
	}
}

// Chapter 14's example 3 and DOC.md's examples 9 and 10: picks of nobody, threads without jobs, threads that are finished.
func TestStutters(t *testing.T) {
	r := run(t, machine.Script{Threads: [][]machine.Job{nil, {}}, Patience: 1, Picks: []int64{0, 1}})
	if !slices.Equal(r.Rows, []api.Row{stutter(0), stutter(1)}) || len(r.Answers) != 2 || len(r.Answers[0])+len(r.Answers[1]) != 0 {
		t.Errorf("%+v", r)
	}
	values(t, r.Finals, end())

	r = run(t, alone(t, nil))
	if len(r.Rows) != 0 {
		t.Errorf("%+v", r.Rows)
	}
	answers(t, r.Answers, []api.Answer{{}})
	values(t, r.Finals, api.Value{Num: 5}, end())

	s := machine.Script{Objects: []int64{5}, Threads: [][]machine.Job{nil, {program(t, "done 8"), program(t, "done 9")}, nil}, Patience: 1}
	s.Picks = []int64{0, -1, 1, 3, 1, -1 << 63, 1, 2, 1, 1<<63 - 1, 1, 1<<32 + 1, 1, 1, 99}
	r = run(t, s)
	rows(t, r.Rows, `
0 stutter
1 stutter
2 1.0.1.1 none begin -1;-1;-1 @0 0>1
3 stutter
4 1.0.1.1 final commit -1;-1;-1 @6 1>2 end commit
5 stutter
6 1.0.1.1 none return -1;-1;-1
7 stutter
8 1.1.1.2 none begin -1;-1;-1 @0 1>2
9 stutter
10 1.1.1.2 final commit -1;-1;-1 @9 1>2 end commit
11 stutter
12 1.1.1.2 none return -1;-1;-1
13 stutter
14 stutter
`)
	answers(t, r.Answers, nil, []api.Answer{commit(8, 1), commit(9, 1)}, nil)
}

// Draws are one stream of all threads; behind its last one all are 0.
func TestDraws(t *testing.T) {
	s := enemies(t, []string{"put @0 6", "put @0 7", "put @0 8"}, times(5, 1), times(5, 0), times(5, 2), times(2, 0), times(20, 2), times(16, 0))
	s.Draws = []int64{3, 15} // wait 2 steps, wait 8 steps
	var verdicts []string
	for _, r := range run(t, s).Rows {
		if r.Kind == api.RowLook {
			verdicts = append(verdicts, line(r))
		}
	}
	want := []string{
		"9 0.0.1.2 write look 0;-1;1 wait 2", "14 2.0.1.3 write look 0;-1;1 wait 8", "28 2.0.1.3 write look 0;-1;1 abort",
	}
	if !slices.Equal(verdicts, want) {
		t.Errorf("verdicts %q, want %q", verdicts, want)
	}
}

// A rank stays at api.MaxRank: from there on it is RowMine that tells.
func TestHighestRank(t *testing.T) {
	s := machine.Script{Objects: []int64{5}, Threads: programs(t, "x: get r1 @0\ndrop @0\ngoto x"), Manager: api.Polka, Patience: 1, Picks: times(2000, 0)}
	boosts, bare := 0, 0
	for _, r := range run(t, s).Rows {
		if r.Kind == api.RowBoost && r.Told && r.Wrote == int64(boosts+1) && bare == 0 {
			boosts++
		}
		if r.Kind == api.RowMine && r.Told {
			bare++
		}
	}
	if boosts != api.MaxRank || bare < 50 {
		t.Errorf("%d boosts, %d reads without one", boosts, bare)
	}
}
