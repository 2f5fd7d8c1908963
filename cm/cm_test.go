package cm_test

import (
	"math"
	"strings"
	"testing"

	"braid/api"
	"braid/cm"
)

const (
	most  = math.MaxInt64
	least = math.MinInt64
)

// edges are numbers at which a sum, a draw or a comparison may go wrong.
var edges = []int64{
	least, least + 1, least + 15, -1 << 32, -1<<32 + 1, -257, -256, -129, -128, -17, -16, -15, -2, -1,
	0, 1, 2, 7, 8, 15, 16, 17, 77, 127, 128, 129, 255, 256, 1<<31 - 1, 1 << 32, 1<<32 + 1, most - 15, most - 1, most,
}

// tries are the ends of int, and those about PoliteTries and PolkaTop.
var tries = []int{math.MinInt, math.MinInt + 1, -8, -1, 0, 1, 2, 3, 4, 5, 6, 7, 8, 9, 10, 62, 63, 64, 65, 1 << 32, math.MaxInt - 1, math.MaxInt}

var patiences = []int{1, 2, 3, 4, 5, 8, 37, 100, 127, 128, 129, 4095, 4096}

var names = [api.Managers]string{"polite", "karma", "polka", "greedy", "oracle"}

var (
	abort   = api.Verdict{Abort: true}
	timeout = api.Verdict{Abort: true, Timeout: true}
)

func wait(steps int) api.Verdict { return api.Verdict{Wait: steps} }

func made(t *testing.T, kind, patience int) *cm.Manager {
	t.Helper()
	m, e := cm.New(kind, patience)
	if m == nil || e != api.OK {
		t.Fatalf("New(%d, %d) = %v, %d", kind, patience, m, e)
	}
	return m
}

// waits are the numbers of steps waited about a patience and at the ends of int.
func waits(patience int) []int {
	list := []int{math.MinInt, math.MinInt + 1, math.MinInt + patience, -patience, -1, 0, 1, 1 << 32, math.MaxInt - patience, math.MaxInt - 1, math.MaxInt}
	for _, steps := range []int{129, 128, 127, 6, 5, 4, 3, 2, 1, 0, -1, -2} {
		list = append(list, patience-steps)
	}
	return list
}

// 6.1

func TestNewTellsWhatItWasMadeWith(t *testing.T) {
	for kind := range api.Managers {
		for patience := 1; patience <= api.MaxPatience; patience++ {
			m := made(t, kind, patience)
			if m.Kind() != kind || m.Patience() != patience {
				t.Fatalf("New(%d, %d) tells %d and %d", kind, patience, m.Kind(), m.Patience())
			}
		}
	}
}

func TestNewRefuses(t *testing.T) {
	noKind := []int{math.MinInt, -1 << 32, -5, -1, 5, 6, 256, 1 << 32, 1<<32 + 1, math.MaxInt}
	noPatience := []int{math.MinInt, -1 << 32, -4096, -1, 0, 4097, 4098, 1<<32 + 1, math.MaxInt}
	refused := func(kind, patience int, want api.Errno) {
		if m, e := cm.New(kind, patience); m != nil || e != want {
			t.Errorf("New(%d, %d) = %v, %d, want nil, %d", kind, patience, m, e, want)
		}
	}
	for _, kind := range noKind {
		for _, patience := range append(noPatience, 1, 5, 4096) { // ErrManager stands ahead
			refused(kind, patience, api.ErrManager)
		}
	}
	for kind := range api.Managers {
		for _, patience := range noPatience {
			refused(kind, patience, api.ErrPatience)
		}
	}
}

func TestNewGivesManagersOfTheirOwn(t *testing.T) {
	var all []*cm.Manager
	for kind := range api.Managers {
		for _, patience := range patiences {
			all = append(all, made(t, kind, patience))
		}
	}
	for i, m := range all {
		kind, patience := i/len(patiences), patiences[i%len(patiences)]
		if m.Kind() != kind || m.Patience() != patience || m.Name() != names[kind] {
			t.Errorf("manager %d became %d, %d, %q", i, m.Kind(), m.Patience(), m.Name())
		}
	}
}

// 6.2

func TestNames(t *testing.T) {
	for kind, name := range names {
		if got := made(t, kind, 1).Name(); got != name {
			t.Errorf("kind %d has the name %q, want %q", kind, got, name)
		}
		if got, e := cm.Named(name); got != kind || e != api.OK {
			t.Errorf("Named(%q) = %d, %d", name, got, e)
		}
	}
}

// nearly gives texts that are nearly a name.
func nearly(name string) []string {
	list := []string{
		strings.ToUpper(name), strings.ToUpper(name[:1]) + name[1:], name[:len(name)-1] + strings.ToUpper(name[len(name)-1:]),
		" " + name, name + " ", name + "\n", "\t" + name, name + "\x00", name + "\xff", "\"" + name + "\"",
		name + name, name + "y", "a" + name, strings.Join(strings.Split(name, ""), " "),
	}
	for i := range name {
		list = append(list, name[:i], name[:i]+name[i+1:], name[:i]+"_"+name[i+1:])
		if i > 0 {
			list = append(list, name[i:])
		}
	}
	return list
}

func TestNamedRefuses(t *testing.T) {
	list := []string{"", " ", "0", "1", "4", "5", "-1", "manager", "managers", "none", "polite karma", "politekarma", strings.Repeat("polka", 1000), "\xff\xfe"}
	for _, name := range names {
		list = append(list, nearly(name)...)
	}
	for _, text := range list {
		if kind, e := cm.Named(text); kind != 0 || e != api.ErrManager {
			t.Errorf("Named(%q) = %d, %d, want 0, %d", text, kind, e, api.ErrManager)
		}
	}
}

// 6.3

func TestWhatAKindLooksAt(t *testing.T) {
	looks := [api.Managers]int{api.Karma: api.LookPriority, api.Polka: api.LookPriority, api.Greedy: api.LookFlag}
	for kind := range api.Managers {
		for _, patience := range patiences {
			m := made(t, kind, patience)
			if m.Look() != looks[kind] {
				t.Errorf("%s looks at %d, want %d", names[kind], m.Look(), looks[kind])
			}
			if m.Keeps() != (kind == api.Karma || kind == api.Polka) {
				t.Errorf("%s keeps priorities: %t", names[kind], m.Keeps())
			}
			if m.Flags() != (kind == api.Greedy) {
				t.Errorf("%s puts flags up: %t", names[kind], m.Flags())
			}
		}
	}
}

// The examples.

func TestExamples(t *testing.T) {
	type c = api.Conflict
	for _, ex := range []struct {
		kind, patience int
		shown          api.Conflict
		want           api.Verdict
	}{
		{api.Polite, 100, c{Tries: 0, Draw: 77}, wait(1)},
		{api.Polite, 100, c{Tries: 3, Draw: 77}, wait(6)},
		{api.Polite, 100, c{Tries: 3, Draw: -1}, wait(8)},
		{api.Polite, 100, c{Tries: 8}, abort},
		{api.Polite, 100, c{Tries: 3, Draw: 77, Waited: 96}, wait(4)},
		{api.Polite, 100, c{Tries: 3, Draw: 77, Waited: 100}, timeout},
		{api.Polite, 100, c{Tries: 8, Waited: 100}, abort},
		{api.Karma, 100, c{Mine: 3, Theirs: 3}, wait(4)},
		{api.Karma, 100, c{Mine: 3, Theirs: 3, Tries: 1}, abort},
		{api.Karma, 100, c{Mine: 1, Theirs: 3, Tries: 2}, wait(4)},
		{api.Karma, 100, c{Mine: 1, Theirs: 3, Tries: 3}, abort},
		{api.Karma, 100, c{Mine: most, Theirs: most, Tries: 5}, wait(4)},
		{api.Polka, 100, c{Mine: 0, Theirs: 9, Tries: 9, Draw: -1}, wait(100)},
		{api.Polka, 100, c{Mine: 0, Theirs: 9, Tries: 10, Draw: -1}, abort},
		{api.Greedy, 10, c{Born: 4, Enemy: 9}, abort},
		{api.Greedy, 10, c{Born: 9, Enemy: 4}, wait(4)},
		{api.Greedy, 10, c{Born: 9, Enemy: 4, Waited: 8}, wait(2)},
		{api.Greedy, 10, c{Born: 9, Enemy: 4, Waited: 10}, timeout},
		{api.Greedy, 10, c{Born: 9, Enemy: 4, Waited: 10, Flag: true}, abort},
		{api.Greedy, 10, c{Born: 9, Enemy: 4, Flag: true}, abort},
		{api.Greedy, 10, c{Born: 4, Enemy: 4}, wait(4)},
		{api.Oracle, 1, c{Draw: 6}, abort},
		{api.Oracle, 1, c{Draw: 7}, wait(4)},
		{api.Oracle, 1, c{Draw: 15}, wait(8)},
		{api.Oracle, 1, c{Draw: -1}, wait(16)},
		{api.Oracle, 1, c{Draw: -1, Waited: 4000}, wait(16)},
		{api.Oracle, 1, c{Draw: 16}, abort},
		{api.Oracle, 1, c{Draw: 17}, wait(1)},
	} {
		if got := made(t, ex.kind, ex.patience).Judge(ex.shown); got != ex.want {
			t.Errorf("%s %d: Judge(%+v) = %+v, want %+v", names[ex.kind], ex.patience, ex.shown, got, ex.want)
		}
	}
}

func TestExampleOfRefusals(t *testing.T) {
	for _, ex := range []struct {
		kind, patience int
		want           api.Errno
	}{
		{5, 0, api.ErrManager}, {-1, 5, api.ErrManager},
		{api.Greedy, 0, api.ErrPatience}, {api.Greedy, 4097, api.ErrPatience}, {api.Oracle, 0, api.ErrPatience},
	} {
		if m, e := cm.New(ex.kind, ex.patience); m != nil || e != ex.want {
			t.Errorf("New(%d, %d) = %v, %d, want nil, %d", ex.kind, ex.patience, m, e, ex.want)
		}
	}
	if kind, e := cm.Named("Polite"); kind != 0 || e != api.ErrManager {
		t.Errorf("Named(Polite) = %d, %d", kind, e)
	}
	if kind, e := cm.Named("polite"); kind != 0 || e != api.OK {
		t.Errorf("Named(polite) = %d, %d", kind, e)
	}
}

// No manager.

func TestNoManager(t *testing.T) {
	d := dice(88172645463325252)
	for _, m := range []*cm.Manager{nil, new(cm.Manager)} {
		if m.Kind() != 0 || m.Patience() != 0 || m.Look() != 0 {
			t.Errorf("no manager tells kind %d, patience %d, look %d", m.Kind(), m.Patience(), m.Look())
		}
		if m.Name() != "" || m.Keeps() || m.Flags() {
			t.Errorf("no manager tells name %q, keeps %t, flags %t", m.Name(), m.Keeps(), m.Flags())
		}
		if got := m.Judge(api.Conflict{}); got != abort {
			t.Errorf("no manager judges %+v", got)
		}
		for range 1000 {
			c := d.conflict()
			if got := m.Judge(c); got != abort {
				t.Fatalf("no manager judges %+v: %+v", c, got)
			}
		}
	}
}
