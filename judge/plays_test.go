package judge_test

import (
	"slices"
	"testing"

	"braid/api"
	"braid/fixture"
	"braid/history"
	"braid/judge"
	"braid/machine"
)

// P16.7: W1 and W2 of thrown scripts.
func TestRunsAreSerialAndOpaque(t *testing.T) {
	t.Parallel()
	d := fixture.NewDice()
	saws, failed, committed := 0, 0, 0
	for n := range 1500 {
		s := fixture.Thrown(&d, n)
		r, first := run(t, s)
		serial(t, s, r, good())
		opaque(t, first, r.Rows, good())
		for _, x := range txsOf(t, r.Rows) {
			saws += len(x.Saws)
			switch x.Outcome {
			case api.EndCommit:
				committed++
			case api.EndStale, api.EndKilled:
				failed++
			}
		}
	}
	if saws < 20000 || failed < 500 || committed < 3000 {
		t.Errorf("%d saws, %d attempts failed, %d committed", saws, failed, committed)
	}
}

func txsOf(t *testing.T, rows []api.Row) []api.Tx {
	t.Helper()
	txs, e := history.Txs(rows)
	if e != api.OK {
		t.Fatalf("Txs = %d", e)
	}
	return txs
}

// found is what was found how often.
type found map[string]int

func (f found) add(g api.Finding) {
	switch {
	case g.Good:
		f["good"]++
	case g.Tx < 0:
		f["finals"]++
	case g.Saw < 0:
		f["attempt"]++
	default:
		f["saw"]++
	}
	if g.Tx > 0 {
		f["a later attempt"]++
	}
	if g.Saw > 0 {
		f["a later saw"]++
	}
}

func (f found) enough(t *testing.T, least int, what ...string) {
	t.Helper()
	for _, w := range what {
		if f[w] < least {
			t.Errorf("%s: found %d times", w, f[w])
		}
	}
}

// sameMoments lays Moments and Opaque beside the plain ones.
func sameMoments(t *testing.T, first []api.Value, rows []api.Row) api.Finding {
	t.Helper()
	want := good()
	values := committed(first, rows)
	for place, x := range txsOf(t, rows) {
		all := plainMoments(values, rows, x)
		moments(t, first, rows, place, all...)
		if saw := slices.Index(all, -1); saw >= 0 && want.Good {
			want = breaks(place, saw)
		}
	}
	opaque(t, first, rows, want)
	return want
}

// sameSerial lays Serial beside the plain one.
func sameSerial(t *testing.T, s machine.Script, r machine.Result) api.Finding {
	t.Helper()
	if !plainFits(s, r) {
		refused(t, s, r, api.ErrTxs)
		return api.Finding{}
	}
	want, _ := plainSerial(s, r)
	serial(t, s, r, want)
	return want
}

// few makes few objects and few values of many, so that what is told stands now and then.
func few(d *fixture.Dice, rows []api.Row) []api.Row {
	some := func(object int) api.Value {
		if d.Below(20) == 0 {
			return fixture.Pick(d, api.Value{Next: 1}, api.Value{Dead: true})
		}
		if d.Below(4) > 0 {
			return api.Value{}
		}
		return api.Value{Num: int64(object)}
	}
	for i := range rows {
		r := &rows[i]
		if r.Told || r.Puts {
			r.Object = fixture.Pick(d, 0, 1, 1, 2, 2, 3)
			if d.Below(60) == 0 {
				r.Object = 9
			}
		}
		if r.Kind == api.RowCommit && !r.Told && d.Below(30) > 0 {
			r.Phase = api.PhaseFinal
		}
		r.Value, r.Put = some(r.Object), some(r.Object)
	}
	return rows
}

// Thrown rows, beside the plain judge.
func TestThrownMoments(t *testing.T) {
	t.Parallel()
	d := fixture.NewDice()
	all := found{}
	for range 4000 {
		rows := few(&d, fixture.Rows(&d, 1+d.Below(90)))
		all.add(sameMoments(t, fixture.Numbers(0, 1, 0, 3)[:fixture.Pick(&d, 4, 4, 3, d.Below(5))], rows))
	}
	all.enough(t, 200, "good", "saw", "a later attempt", "a later saw")
}

// rowsOfThread0 are rows of one attempt that knows much, and of others that turn its objects.
func rowsOfThread0(d *fixture.Dice, size int) []api.Row {
	rows := []api.Row{begin(0)}
	now := [3]int64{0, 1, 0}
	count := 0
	for len(rows) < size {
		object := d.Below(3)
		num := fixture.Pick(d, now[object], now[object], now[object], int64(d.Below(2)))
		switch d.Below(8) {
		case 0, 1:
			now[object] = 1 - num
			rows = append(rows, sets(1+d.Below(5), object, 1-num)...)
		case 2:
			rows = append(rows, release(0, d.Below(count+1)-1))
		case 3:
			rows = append(rows, takes(0, object, d.Below(count+1)-1, num))
		case 4:
			if d.Below(3) == 0 {
				rows = append(rows, puts(0, object, num))
			}
		case 5:
			rows = append(rows, reads(0, object, d.Below(count+1)-1, num))
		default:
			rows = append(rows, reads(0, object, count, num))
			count++
		}
	}
	return laid(rows...)
}

func TestThrownKnowledge(t *testing.T) {
	t.Parallel()
	d := fixture.NewDice()
	late, none := 0, 0
	for range 3000 {
		rows := rowsOfThread0(&d, 5+d.Below(30))
		sameMoments(t, fixture.Numbers(0, 1, 0), rows)
		list, _ := judge.Moments(fixture.Numbers(0, 1, 0), rows, 0)
		for _, m := range list {
			if m > 0 {
				late++
			}
			if m < 0 {
				none++
			}
		}
	}
	if late < 1000 || none < 5000 {
		t.Errorf("%d moments behind the begin, %d saws without one", late, none)
	}
}

// Thrown rows of calls of the set, of which the model knows nothing.
func TestThrownSerial(t *testing.T) {
	t.Parallel()
	d := fixture.NewDice()
	all := found{}
	for range 6000 {
		rows := few(&d, fixture.Rows(&d, 1+d.Below(fixture.Pick(&d, 15, 60))))
		jobs := slices.Repeat([]machine.Job{{Kind: api.JobSize}}, fixture.Pick(&d, 1, api.MaxJobs, api.MaxJobs, api.MaxJobs))
		s := scripted([]int64{0, 1, 0}, slices.Repeat([][]machine.Job{jobs}, fixture.Pick(&d, 3, api.MaxThreads, api.MaxThreads, api.MaxThreads))...)
		s, r := played(s, rows)
		if plainFits(s, r) {
			_, r.Finals = plainSerial(s, r)
		}
		if d.Below(4) == 0 {
			r.Finals[d.Below(len(r.Finals))].Num++
		}
		all.add(sameSerial(t, s, r))
	}
	all.enough(t, 60, "good", "saw", "finals", "a later attempt", "a later saw")
}

// spoils changes something of a script's run that is looked at; most often the rows still may stand.
func spoils(d *fixture.Dice, s *machine.Script, r *machine.Result) {
	n := int64(d.Below(5) - 2)
	i := d.Below(len(r.Rows))
	for range 200 { // a row that matters
		if row := r.Rows[i]; row.Told || row.Puts || row.Kind == api.RowRelease || d.Below(100) == 0 {
			break
		}
		i = d.Below(len(r.Rows))
	}
	row := &r.Rows[i]
	p := d.Below(len(s.Threads))
	switch d.Below(16) {
	case 0:
		row.Value.Num += n
	case 1:
		row.Put.Num += n
	case 2:
		row.Value.Next += int(n)
	case 3:
		row.Put.Dead = !row.Put.Dead
	case 4:
		row.Object = d.Below(len(r.Finals) + 1)
	case 5:
		row.Entry += int(n)
	case 6:
		row.Puts = !row.Puts
	case 7:
		row.Told = !row.Told
	case 8:
		if row.Kind == api.RowRelease {
			row.Kind = api.RowLocal
		} else {
			row.Kind, row.Told = api.RowRelease, false
		}
	case 9:
		row.Phase = fixture.Pick(d, api.PhaseRead, api.PhaseWrite, api.PhaseFinal)
	case 10:
		s.Picks[i] += n
	case 11:
		r.Finals[d.Below(len(r.Finals))].Num += n
	case 12:
		s.Threads[p] = append(s.Threads[p][:len(s.Threads[p]):len(s.Threads[p])], machine.Job{})
		r.Answers[p] = append(r.Answers[p], api.Answer{})
		s.Threads[p] = s.Threads[p][:min(len(s.Threads[p]), api.MaxJobs)]
	default:
		if len(s.Threads[p]) == 0 {
			return
		}
		k := d.Below(len(s.Threads[p]))
		if j := &s.Threads[p][k]; d.Below(2) == 0 && len(j.Program) > 0 {
			j.Program[d.Below(len(j.Program))].X.Num ^= n
		} else {
			a := &r.Answers[p][k]
			a.Result, a.Tries = a.Result+n, a.Tries+d.Below(2)
		}
	}
}

// Runs in which something is spoilt, beside the plain judge.
func TestSpoiltRuns(t *testing.T) {
	t.Parallel()
	d := fixture.NewDice()
	serials, opaques, refusals := found{}, found{}, 0
	for n := range 700 {
		s := fixture.Thrown(&d, n)
		s.Picks = s.Picks[:min(len(s.Picks), 150)]
		r, first := run(t, s)
		for range 6 {
			s, r := fixture.Copied(s), copied(r)
			for range 1 + d.Below(2) {
				spoils(&d, &s, &r)
			}
			if machine.Check(s) != api.OK {
				continue
			}
			if _, e := history.Check(r.Rows); e != api.OK || !plainFits(s, r) {
				refused(t, s, r, api.ErrTxs)
				refusals++
				continue
			}
			serials.add(sameSerial(t, s, r))
			opaques.add(sameMoments(t, first, r.Rows))
		}
	}
	serials.enough(t, 40, "good", "saw", "attempt", "finals", "a later attempt", "a later saw")
	opaques.enough(t, 40, "good", "saw", "a later attempt", "a later saw")
	if refusals < 200 {
		t.Errorf("%d were refused", refusals)
	}
}

// P16.8: the moments of a beginning are those of the whole, as far as the saws have come.
func beginnings(t *testing.T, first []api.Value, rows []api.Row, k int) {
	t.Helper()
	whole := good()
	for place, x := range txsOf(t, rows[:k]) {
		some, e := judge.Moments(first, rows[:k], place)
		all, f := judge.Moments(first, rows, place)
		if e != api.OK || f != api.OK || len(some) != len(x.Saws) || !slices.Equal(some, all[:len(some)]) {
			t.Fatalf("attempt %d: %v, %d of %d rows, %v, %d of all", place, some, e, k, all, f)
		}
		if saw := slices.Index(some, -1); saw >= 0 && whole.Good {
			whole = breaks(place, saw)
		}
	}
	opaque(t, first, rows[:k], whole)
}

func TestBeginnings(t *testing.T) {
	t.Parallel()
	d := fixture.NewDice()
	for range 60 {
		rows := few(&d, fixture.Rows(&d, 60))
		for k := range len(rows) + 1 {
			beginnings(t, fixture.Numbers(0, 1, 0, 3), rows, k)
		}
		rows = rowsOfThread0(&d, 40)
		for k := range len(rows) + 1 {
			beginnings(t, fixture.Numbers(0, 1, 0), rows, k)
		}
	}
	for n := range 150 {
		s := fixture.Thrown(&d, n)
		r, first := run(t, s)
		for range 3 {
			k := d.Below(len(r.Rows) + 1)
			beginnings(t, first, r.Rows[:min(len(r.Rows), 300)], min(k, 300))
			opaque(t, first, r.Rows[:k], good())
			short := s
			short.Picks = s.Picks[:k]
			part, _ := run(t, short) // and a beginning of the picks is a run
			serial(t, short, part, good())
		}
	}
}
