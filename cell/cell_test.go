package cell_test

import (
	"math"
	"slices"
	"testing"

	"braid/api"
	"braid/cell"
)

// edges are the words at which a sum wraps round or a narrower number would break.
var edges = []int64{
	math.MinInt64, math.MinInt64 + 1, -1 << 32, -1 << 31, -2, -1,
	0, 1, 2, 1<<31 - 1, 1 << 31, 1 << 32, math.MaxInt64 - 1, math.MaxInt64,
}

// dice gives the same numbers at every run.
type dice uint64

func (d *dice) below(n int) int {
	*d ^= *d << 13
	*d ^= *d >> 7
	*d ^= *d << 17
	return int(uint64(*d) % uint64(n))
}

// plain is a memory that keeps no cell's word and no open step: it works all out of the rows, as the chapter tells it.
type plain struct {
	firsts []int64
	rows   []api.Access
	begun  []int // the steps
	thread int
}

func (p *plain) then(c, step int) int64 {
	held := p.firsts[c]
	for _, row := range p.rows {
		if row.Cell == c && row.Step <= step {
			held = row.Wrote
		}
	}
	return held
}

func (p *plain) took() api.Access {
	for _, row := range p.rows {
		if row.Step == p.begun[len(p.begun)-1] {
			return row
		}
	}
	return api.Access{}
}

func (p *plain) begin(step, thread int) api.Errno {
	if step < 0 || thread < 0 {
		return api.ErrStep
	}
	for _, s := range p.begun {
		if step <= s {
			return api.ErrStep
		}
	}
	p.begun = append(p.begun, step)
	p.thread = thread
	return api.OK
}

// access takes an access of any kind; a is Swap's old or Add's sum, b is Swap's next.
func (p *plain) access(kind, c int, a, b int64) (api.Access, api.Errno) {
	if c < 0 || c >= len(p.firsts) {
		return api.Access{}, api.ErrCell
	}
	if len(p.begun) == 0 || p.took().Kind != api.AccNone {
		return api.Access{}, api.ErrClosed
	}
	held := p.then(c, math.MaxInt)
	row := api.Access{Step: p.begun[len(p.begun)-1], Thread: p.thread, Kind: kind, Cell: c, Seen: held, Wrote: held, Done: true}
	switch {
	case kind == api.AccAdd:
		row.Wrote = int64(uint64(held) + uint64(a))
	case kind == api.AccSwap && held == a:
		row.Wrote = b
	case kind == api.AccSwap:
		row.Done = false
	}
	p.rows = append(p.rows, row)
	return row, api.OK
}

// call makes the same access on the memory, and lays the answer beside what the row says of it.
func call(t *testing.T, m *cell.Memory, kind, c int, a, b int64, row api.Access, want api.Errno) {
	t.Helper()
	switch kind {
	case api.AccLoad:
		v, e := m.Load(c)
		number(t, "Load", v, e, row.Seen, want)
	case api.AccSwap:
		done, e := m.Swap(c, a, b)
		flag(t, "Swap", done, e, row.Done, want)
	case api.AccAdd:
		v, e := m.Add(c, a)
		number(t, "Add", v, e, row.Seen, want)
	}
}

// same holds all that can be told of a memory against the plain one.
func same(t *testing.T, m *cell.Memory, p *plain) {
	t.Helper()
	if m.Size() != len(p.firsts) {
		t.Fatalf("Size = %d, want %d", m.Size(), len(p.firsts))
	}
	if got := m.Log(); !slices.Equal(got, p.rows) {
		t.Fatalf("Log = %v, want %v", got, p.rows)
	}
	var want api.Access
	if len(p.begun) > 0 {
		want = p.took()
	}
	if got := m.Took(); got != want {
		t.Fatalf("Took = %v, want %v", got, want)
	}
	for c := range p.firsts {
		v, e := m.Peek(c)
		number(t, "Peek", v, e, p.then(c, math.MaxInt), api.OK)
	}
}

func number(t *testing.T, what string, v int64, e api.Errno, want int64, f api.Errno) {
	t.Helper()
	if v != want || e != f {
		t.Fatalf("%s = %d, %d, want %d, %d", what, v, e, want, f)
	}
}

func flag(t *testing.T, what string, v bool, e api.Errno, want bool, f api.Errno) {
	t.Helper()
	if v != want || e != f {
		t.Fatalf("%s = %t, %d, want %t, %d", what, v, e, want, f)
	}
}

func begin(t *testing.T, m *cell.Memory, step, thread int, want api.Errno) {
	t.Helper()
	if e := m.Begin(step, thread); e != want {
		t.Fatalf("Begin(%d, %d) = %d, want %d", step, thread, e, want)
	}
}

// with is a memory with a cell for each word.
func with(t *testing.T, words ...int64) *cell.Memory {
	t.Helper()
	m := cell.New()
	for i, w := range words {
		if c, e := m.Make(w); c != i || e != api.OK {
			t.Fatalf("Make(%d) = %d, %d, want %d, OK", w, c, e, i)
		}
	}
	return m
}

// given is what an iterator gives, with at most so many rows taken.
func given(tail func(func(int, api.Access) bool), most int) (places []int, rows []api.Access) {
	if most == 0 {
		return nil, nil
	}
	for i, row := range tail {
		places, rows = append(places, i), append(rows, row)
		if len(rows) == most {
			break
		}
	}
	return places, rows
}

// worked is the memory behind the worked example 3, each answer looked at on the way.
func worked(t *testing.T) *cell.Memory {
	t.Helper()
	m := with(t, 5, 7)
	v, e := m.Load(0)
	number(t, "Load(0)", v, e, 0, api.ErrClosed)
	v, e = m.Load(2)
	number(t, "Load(2)", v, e, 0, api.ErrCell)

	begin(t, m, 0, 3, api.OK)
	done, e := m.Swap(0, 5, 6)
	flag(t, "Swap(0, 5, 6)", done, e, true, api.OK)
	done, e = m.Swap(0, 6, 9)
	flag(t, "Swap(0, 6, 9)", done, e, false, api.ErrClosed)
	v, e = m.Peek(0)
	number(t, "Peek(0)", v, e, 6, api.OK)
	if got := m.Took(); got != workedRows[0] {
		t.Fatalf("Took = %v, want %v", got, workedRows[0])
	}

	begin(t, m, 0, 3, api.ErrStep)
	begin(t, m, 4, 1, api.OK)
	if got := m.Took(); got != (api.Access{}) {
		t.Fatalf("Took of a step without an access = %v", got)
	}
	done, e = m.Swap(0, 5, 9)
	flag(t, "Swap(0, 5, 9)", done, e, false, api.OK)
	begin(t, m, 5, 1, api.OK)
	v, e = m.Add(1, -9)
	number(t, "Add(1, -9)", v, e, 7, api.OK)
	v, e = m.Peek(1)
	number(t, "Peek(1)", v, e, -2, api.OK)
	return m
}

var workedRows = []api.Access{
	{Step: 0, Thread: 3, Kind: api.AccSwap, Cell: 0, Seen: 5, Wrote: 6, Done: true},
	{Step: 4, Thread: 1, Kind: api.AccSwap, Cell: 0, Seen: 6, Wrote: 6, Done: false},
	{Step: 5, Thread: 1, Kind: api.AccAdd, Cell: 1, Seen: 7, Wrote: -2, Done: true},
}

func TestWorkedExamples(t *testing.T) {
	m := worked(t)
	thens := []struct {
		c, step int
		want    int64
		e       api.Errno
	}{
		{0, -1, 5, api.OK}, {0, 0, 6, api.OK}, {1, 4, 7, api.OK}, {1, 5, -2, api.OK}, {1, 1000, -2, api.OK}, {2, 0, 0, api.ErrCell},
	}
	for _, c := range thens {
		v, e := m.Then(c.c, c.step)
		number(t, "Then", v, e, c.want, c.e)
	}
	if got := m.Log(); !slices.Equal(got, workedRows) {
		t.Errorf("Log = %v, want %v", got, workedRows)
	}
	tails := []struct {
		from   int
		places []int
	}{
		{1, []int{1, 2}}, {3, nil}, {99, nil}, {-4, []int{0, 1, 2}},
		{0, []int{0, 1, 2}}, {2, []int{2}}, {math.MinInt, []int{0, 1, 2}}, {math.MaxInt, nil},
	}
	for _, c := range tails {
		places, rows := given(m.Tail(c.from), -1)
		if !slices.Equal(places, c.places) {
			t.Errorf("Tail(%d) gave the rows %v, want %v", c.from, places, c.places)
		}
		if want := workedRows[3-len(c.places):]; !slices.Equal(rows, want) {
			t.Errorf("Tail(%d) gave %v, want %v", c.from, rows, want)
		}
	}
}

func TestAddWrapsRound(t *testing.T) {
	for _, held := range edges {
		for _, by := range edges {
			m := with(t, held)
			begin(t, m, 0, 0, api.OK)
			v, e := m.Add(0, by)
			number(t, "Add", v, e, held, api.OK)
			v, e = m.Peek(0)
			number(t, "Peek", v, e, int64(uint64(held)+uint64(by)), api.OK)
		}
	}
	m := with(t, math.MaxInt64)
	begin(t, m, 0, 0, api.OK)
	v, e := m.Add(0, 1)
	number(t, "Add(0, 1)", v, e, 1<<63-1, api.OK)
	v, e = m.Peek(0)
	number(t, "Peek(0)", v, e, -1<<63, api.OK)
}

func TestSwapsAtTheEdges(t *testing.T) {
	for _, held := range edges {
		for _, old := range edges {
			for _, next := range edges {
				m := with(t, 77, held)
				begin(t, m, 2, 1, api.OK)
				done, e := m.Swap(1, old, next)
				flag(t, "Swap", done, e, held == old, api.OK)
				want := held
				if held == old {
					want = next
				}
				row := api.Access{Step: 2, Thread: 1, Kind: api.AccSwap, Cell: 1, Seen: held, Wrote: want, Done: held == old}
				if got := m.Took(); got != row {
					t.Fatalf("Took = %v, want %v", got, row)
				}
				v, e := m.Peek(1)
				number(t, "Peek(1)", v, e, want, api.OK)
				v, e = m.Peek(0)
				number(t, "Peek(0)", v, e, 77, api.OK)
				v, e = m.Load(1)
				number(t, "an access behind the Swap", v, e, 0, api.ErrClosed)
			}
		}
	}
}

func TestBegin(t *testing.T) {
	for _, first := range []int{0, 1, 7, 1 << 32, math.MaxInt} {
		m := with(t, 1)
		begin(t, m, -1, 0, api.ErrStep)
		begin(t, m, math.MinInt, 0, api.ErrStep)
		begin(t, m, first, -1, api.ErrStep)
		begin(t, m, first, math.MinInt, api.ErrStep)
		v, e := m.Load(0)
		number(t, "Load behind Begins that were refused", v, e, 0, api.ErrClosed)
		begin(t, m, first, math.MaxInt, api.OK)
		begin(t, m, first, 0, api.ErrStep)
		begin(t, m, first-1, 0, api.ErrStep)
		begin(t, m, math.MaxInt, -1, api.ErrStep)
		begin(t, m, -1, 0, api.ErrStep)
		v, e = m.Add(0, 1)
		number(t, "Add in the step that stayed open", v, e, 1, api.OK)
		if got := m.Took(); got.Step != first || got.Thread != math.MaxInt {
			t.Errorf("the access is told of step %d, thread %d", got.Step, got.Thread)
		}
		begin(t, m, first, 0, api.ErrStep)
		v, e = m.Load(0)
		number(t, "Load in a step that was refused", v, e, 0, api.ErrClosed)
	}
}

func TestStepsGoByWithoutAnAccess(t *testing.T) {
	m := with(t, 4)
	for _, step := range []int{3, 4, 9} {
		begin(t, m, step, step, api.OK)
	}
	if len(m.Log()) != 0 {
		t.Errorf("steps without an access left %v", m.Log())
	}
	v, e := m.Load(0)
	number(t, "Load", v, e, 4, api.OK)
	begin(t, m, 10, 0, api.OK)
	if got := m.Took(); got != (api.Access{}) {
		t.Errorf("Took of step 10 = %v", got)
	}
	want := []api.Access{{Step: 9, Thread: 9, Kind: api.AccLoad, Cell: 0, Seen: 4, Wrote: 4, Done: true}}
	if got := m.Log(); !slices.Equal(got, want) {
		t.Errorf("Log = %v, want %v", got, want)
	}
}

func TestNoCellIsToldAheadOfAClosedStep(t *testing.T) {
	m := with(t, 4)
	wrong := func(want api.Errno, c int) {
		t.Helper()
		v, e := m.Load(c)
		number(t, "Load", v, e, 0, want)
		done, e := m.Swap(c, 4, 4)
		flag(t, "Swap", done, e, false, want)
		v, e = m.Add(c, 1)
		number(t, "Add", v, e, 0, want)
	}
	none := []int{-1, 1, math.MinInt, math.MaxInt}
	for _, c := range none {
		wrong(api.ErrCell, c)
		v, e := m.Peek(c)
		number(t, "Peek", v, e, 0, api.ErrCell)
		v, e = m.Then(c, 0)
		number(t, "Then", v, e, 0, api.ErrCell)
	}
	wrong(api.ErrClosed, 0)
	begin(t, m, 0, 0, api.OK)
	for _, c := range none {
		wrong(api.ErrCell, c)
	}
	if got := m.Took(); got != (api.Access{}) {
		t.Errorf("Took behind refusals = %v", got)
	}
	v, e := m.Add(0, 3)
	number(t, "Add in the step that stayed open", v, e, 4, api.OK)
	wrong(api.ErrClosed, 0)
	wrong(api.ErrCell, 1)
	if len(m.Log()) != 1 {
		t.Errorf("refusals left rows: %v", m.Log())
	}
	v, e = m.Peek(0)
	number(t, "Peek", v, e, 7, api.OK)
}

func TestMakingIsNoAccess(t *testing.T) {
	m := with(t, 4)
	begin(t, m, 6, 2, api.OK)
	c, e := m.Make(-8)
	if c != 1 || e != api.OK || m.Size() != 2 || len(m.Log()) != 0 || m.Took() != (api.Access{}) {
		t.Fatalf("Make in an open step = %d, %d", c, e)
	}
	v, e := m.Add(1, 2)
	number(t, "Add on the new cell", v, e, -8, api.OK)
	took := m.Took()
	if c, e := m.Make(3); c != 2 || e != api.OK || m.Took() != took {
		t.Fatalf("Make behind the access = %d, %d, Took %v", c, e, m.Took())
	}
	v, e = m.Load(2)
	number(t, "Load behind a Make", v, e, 0, api.ErrClosed)
	for _, step := range []int{math.MinInt, -1, 0, 5, 6, math.MaxInt} {
		v, e = m.Then(2, step)
		number(t, "Then of a cell without a row", v, e, 3, api.OK)
		v, e = m.Then(1, step)
		want := int64(-8)
		if step >= 6 {
			want = -6
		}
		number(t, "Then of a cell that was made later", v, e, want, api.OK)
	}
}

func TestPeekIsNoAccess(t *testing.T) {
	m := with(t, 4)
	v, e := m.Peek(0)
	number(t, "Peek ahead of all steps", v, e, 4, api.OK)
	begin(t, m, 0, 0, api.OK)
	v, e = m.Peek(0)
	number(t, "Peek in an open step", v, e, 4, api.OK)
	v, e = m.Then(0, 0)
	number(t, "Then in an open step", v, e, 4, api.OK)
	v, e = m.Load(0)
	number(t, "Load behind a Peek", v, e, 4, api.OK)
	v, e = m.Peek(0)
	number(t, "Peek behind the access", v, e, 4, api.OK)
	if len(m.Log()) != 1 {
		t.Errorf("Log = %v", m.Log())
	}
}

func TestFull(t *testing.T) {
	m := cell.New()
	for i := range 65536 {
		if c, e := m.Make(int64(i) * 3); c != i || e != api.OK {
			t.Fatalf("Make = %d, %d, want %d, OK", c, e, i)
		}
	}
	begin(t, m, 0, 0, api.OK)
	for range 2 {
		if c, e := m.Make(1); c != 0 || e != api.ErrFull || m.Size() != 65536 {
			t.Errorf("Make on a full memory = %d, %d, Size %d", c, e, m.Size())
		}
	}
	v, e := m.Load(65536)
	number(t, "Load(65536)", v, e, 0, api.ErrCell)
	v, e = m.Load(65535)
	number(t, "Load(65535)", v, e, 65535*3, api.OK)
	v, e = m.Peek(0)
	number(t, "Peek(0)", v, e, 0, api.OK)
}

func TestLogIsNewMemory(t *testing.T) {
	m := worked(t)
	list := m.Log()
	for i := range list {
		list[i] = api.Access{Step: 99}
	}
	begin(t, m, 8, 0, api.OK)
	m.Load(0)
	_ = append(m.Log()[:3], api.Access{Step: 98})
	full := m.Log()
	_ = append(full, api.Access{Step: 97})
	other := m.Log()
	begin(t, m, 9, 0, api.OK)
	m.Load(1)
	want := slices.Concat(workedRows, []api.Access{
		{Step: 8, Kind: api.AccLoad, Cell: 0, Seen: 6, Wrote: 6, Done: true},
		{Step: 9, Kind: api.AccLoad, Cell: 1, Seen: -2, Wrote: -2, Done: true},
	})
	if got := m.Log(); !slices.Equal(got, want) {
		t.Errorf("Log = %v, want %v", got, want)
	}
	if !slices.Equal(other, want[:4]) {
		t.Errorf("a list that was handed out grew or changed: %v", other)
	}
	a, b := full[:cap(full)], other[:cap(other)]
	if &a[0] == &b[0] || &a[len(a)-1] == &b[len(b)-1] {
		t.Error("two lists share memory")
	}
}

func TestTailIsLeftEarlyAndGoneThroughAgain(t *testing.T) {
	m := with(t, 0)
	for i := range 9 {
		begin(t, m, 2*i, i, api.OK)
		m.Add(0, 1)
	}
	log := m.Log()
	for from := -2; from < 12; from++ {
		tail := m.Tail(from)
		start := min(max(from, 0), 9)
		for most := range 12 {
			places, rows := given(tail, most)
			want := log[start:min(start+most, 9)]
			if !slices.Equal(rows, want) {
				t.Fatalf("Tail(%d), left behind %d rows, gave %v, want %v", from, most, rows, want)
			}
			for i, place := range places {
				if place != start+i {
					t.Fatalf("Tail(%d) gave the number %d, want %d", from, place, start+i)
				}
			}
			if got := m.Log(); !slices.Equal(got, log) {
				t.Fatalf("going through Tail(%d) left %v", from, got)
			}
		}
	}
}

func TestTailLeavesOutWhatIsPutBehind(t *testing.T) {
	m := with(t, 0)
	tail := m.Tail(1)
	step := 0
	access := func() {
		begin(t, m, step, 0, api.OK)
		m.Add(0, 1)
		step++
	}
	for range 4 {
		access()
	}
	// the rows count at the beginning of the going through, not when the iterator was made
	for _, want := range [][]int{{1, 2, 3}, {1, 2, 3, 4, 5, 6}} {
		var places []int
		for i, row := range tail {
			places = append(places, i)
			if row.Step != i || row.Seen != int64(i) {
				t.Fatalf("row %d is %v", i, row)
			}
			access()
		}
		if !slices.Equal(places, want) {
			t.Fatalf("the rows %v were given, want %v", places, want)
		}
	}
	if len(m.Log()) != 13 {
		t.Errorf("the log has %d rows, want 13", len(m.Log()))
	}
}

func TestTailWithinTail(t *testing.T) {
	m := worked(t)
	tail := m.Tail(0)
	var got []int
	for i := range tail {
		for k := range tail {
			got = append(got, 10*i+k)
			if k == i {
				break
			}
		}
	}
	if want := []int{0, 10, 11, 20, 21, 22}; !slices.Equal(got, want) {
		t.Errorf("%v, want %v", got, want)
	}
}

func TestTwoMemoriesShareNothing(t *testing.T) {
	a, b := cell.New(), with(t, 8)
	if a.Size() != 0 || len(a.Log()) != 0 || a.Took() != (api.Access{}) {
		t.Fatal("a new memory is not empty")
	}
	a.Make(1)
	begin(t, a, 5, 1, api.OK)
	a.Add(0, 1)
	v, e := b.Load(0)
	number(t, "Load", v, e, 0, api.ErrClosed)
	begin(t, b, 0, 2, api.OK)
	v, e = b.Load(0)
	number(t, "Load", v, e, 8, api.OK)
	if a.Size() != 1 || len(a.Log()) != 1 || a.Took().Step != 5 || b.Took().Step != 0 {
		t.Errorf("%v, %v", a.Log(), b.Log())
	}
}

func TestTheZeroMemory(t *testing.T) {
	var m cell.Memory
	p := &plain{}
	same(t, &m, p)
	v, e := m.Load(0)
	number(t, "Load", v, e, 0, api.ErrCell)
	for range m.Tail(0) {
		t.Error("the zero Memory has a row")
	}
	if c, e := m.Make(4); c != 0 || e != api.OK {
		t.Fatalf("Make = %d, %d", c, e)
	}
	v, e = m.Load(0)
	number(t, "Load", v, e, 0, api.ErrClosed)
	begin(t, &m, 0, 0, api.OK)
	v, e = m.Load(0)
	number(t, "Load", v, e, 4, api.OK)
}

func TestTheNilMemory(t *testing.T) {
	var m *cell.Memory
	for range 2 {
		if c, e := m.Make(4); c != 0 || e != api.ErrFull {
			t.Errorf("Make = %d, %d", c, e)
		}
		for _, step := range []int{math.MinInt, -1, 0, 1, math.MaxInt} {
			begin(t, m, step, step, api.ErrStep)
		}
		for _, c := range []int{math.MinInt, -1, 0, 1, math.MaxInt} {
			v, e := m.Load(c)
			number(t, "Load", v, e, 0, api.ErrCell)
			done, e := m.Swap(c, 0, 0)
			flag(t, "Swap", done, e, false, api.ErrCell)
			v, e = m.Add(c, 1)
			number(t, "Add", v, e, 0, api.ErrCell)
			v, e = m.Peek(c)
			number(t, "Peek", v, e, 0, api.ErrCell)
			v, e = m.Then(c, c)
			number(t, "Then", v, e, 0, api.ErrCell)
			for range m.Tail(c) {
				t.Error("a nil Memory has a row")
			}
		}
		if m.Size() != 0 || len(m.Log()) != 0 || m.Took() != (api.Access{}) {
			t.Error("a nil Memory holds something")
		}
	}
}

// grain looks at what 3.10 says of a log.
func grain(t *testing.T, p *plain, rows []api.Access) {
	t.Helper()
	held := slices.Clone(p.firsts)
	last := -1
	for i, row := range rows {
		if row.Step <= last {
			t.Fatalf("row %d: step %d behind step %d", i, row.Step, last)
		}
		if row.Seen != held[row.Cell] {
			t.Fatalf("row %d: saw %d, and the cell held %d", i, row.Seen, held[row.Cell])
		}
		last, held[row.Cell] = row.Step, row.Wrote
	}
}

func TestLongRunsAgainstThePlainMemory(t *testing.T) {
	d := dice(2463534242)
	for range 40 {
		m, p := cell.New(), &plain{}
		step := 0
		for range 150 {
			switch d.below(8) {
			case 0:
				w := edges[d.below(len(edges))]
				if c, e := m.Make(w); c != len(p.firsts) || e != api.OK {
					t.Fatalf("Make = %d, %d", c, e)
				}
				p.firsts = append(p.firsts, w)
			case 1, 2, 3:
				step += d.below(5) - 1
				thread := d.below(5) - 1
				begin(t, m, step, thread, p.begin(step, thread))
				step = max(step, 0)
			default:
				kind, c := 1+d.below(3), d.below(len(p.firsts)+3)-1
				a, b := edges[d.below(len(edges))], edges[d.below(len(edges))]
				if c >= 0 && c < len(p.firsts) && d.below(2) == 0 {
					a = p.then(c, math.MaxInt)
				}
				row, e := p.access(kind, c, a, b)
				call(t, m, kind, c, a, b, row, e)
			}
			same(t, m, p)
		}
		grain(t, p, m.Log())
		for c := range p.firsts {
			for s := -2; s < step+3; s++ {
				v, e := m.Then(c, s)
				number(t, "Then", v, e, p.then(c, s), api.OK)
			}
		}
	}
}
