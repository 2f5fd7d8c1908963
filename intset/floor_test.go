package intset_test

import (
	"fmt"
	"slices"
	"strings"
	"testing"

	"braid/api"
	"braid/fixture"
	"braid/intset"
)

// floor is a scene with calls of the set over it.
//
// Over the chapter's four objects the cells are: 1 and 2 the genesis' status and flag, 3 to 6 the objects'; then, as they
// begin, each transaction's priority (7 the first one's) and each attempt's status and flag (8 and 9 the first one's).
type floor struct{ *fixture.Floor }

// lay makes the chapter's floor: the list 5, 8 from object 0 on, and object 3, which is not linked.
func lay(t *testing.T) *floor {
	t.Helper()
	return layUnder(t, api.Polite, 100, list(1, 5, 8))
}

// layOver makes a floor over these values, under a manager that waits one step at most.
func layOver(t *testing.T, values []api.Value) *floor {
	t.Helper()
	return layUnder(t, api.Polite, 1, values)
}

func layUnder(t *testing.T, kind, patience int, values []api.Value) *floor {
	t.Helper()
	return &floor{fixture.Lay(t, kind, patience, values, nil)}
}

// list is the values of a list with these keys, whose head is object 0 and whose nodes are 1, 2, .., and so many nodes
// behind it that are not linked.
func list(spare int, keys ...int64) []api.Value {
	values := []api.Value{{Next: -1}}
	for i, k := range keys {
		values[i].Next = i + 1
		values = append(values, api.Value{Num: k, Next: -1})
	}
	for range spare {
		values = append(values, api.Value{Next: -1})
	}
	return values
}

// ask is one of the six calls with its keys.
type ask struct {
	call       int
	key, other int64
}

func insert(key int64) ask      { return ask{call: api.JobInsert, key: key} }
func remove(key int64) ask      { return ask{call: api.JobRemove, key: key} }
func contains(key int64) ask    { return ask{call: api.JobContains, key: key} }
func least() ask                { return ask{call: api.JobLeast} }
func size() ask                 { return ask{call: api.JobSize} }
func move(key, other int64) ask { return ask{call: api.JobMove, key: key, other: other} }

func (a ask) String() string {
	return fmt.Sprint([]string{"", "insert", "remove", "contains", "least", "size", "move"}[a.call], " ", a.key, " ", a.other)
}

// job makes a call of thread 2, its number 5, whose head is object 0 and whose node is the world's last object.
func (f *floor) job(a ask) *intset.Job {
	f.Helper()
	return f.jobOf(2, 5, a, 0, f.Scene.World.Objects()-1)
}

func (f *floor) jobOf(thread, number int, a ask, head, node int) *intset.Job {
	f.Helper()
	j, e := intset.New(f.Fresh(thread, number), a.call, a.key, a.other, head, node)
	if j == nil || e != api.OK {
		f.Fatalf("New(%v, %d, %d) = %v, %d", a, head, node, j, e)
	}
	return j
}

// first is the first attempt of a floor's first call.
func first() fixture.Whose { return fixture.By(2, 5, 1, 1) }

func yes(result int64, tries int) api.Answer {
	return api.Answer{Outcome: api.EndCommit, Yes: true, Result: result, Tries: tries}
}

func no(tries int) api.Answer { return api.Answer{Outcome: api.EndCommit, Tries: tries} }

func bad(tries int) api.Answer { return api.Answer{Outcome: api.EndBad, Tries: tries} }

func (f *floor) keys(want ...int64) {
	f.Helper()
	if got, is := intset.Keys(f.Scene.World.Committed(), 0); !is || !slices.Equal(got, want) {
		f.Fatalf("Keys = %v, %v, want %v", got, is, want)
	}
}

func (f *floor) committed(want ...api.Value) {
	f.Helper()
	if got := f.Scene.World.Committed(); !slices.Equal(got, want) {
		f.Fatalf("committed %+v, want %+v", got, want)
	}
}

// overtaken has another call, of thread 8, answer yes. Its node is the world's last object but one.
func (f *floor) overtaken(a ask) {
	f.Helper()
	j := f.jobOf(8, 8, a, 0, f.Scene.World.Objects()-2)
	f.Run(j)
	if !j.Answer().Yes {
		f.Fatalf("%v answers %+v", a, j.Answer())
	}
}

// told takes steps to the row that tells the value of an object.
func (f *floor) told(j *intset.Job, object int) {
	f.Helper()
	for range 1000 {
		if r := f.Step(j); r.Told && r.Object == object {
			return
		}
	}
	f.Fatalf("object %d is not told", object)
}

// actions tells what a call did, action by action, from the rows with which its actions were through.
func actions(rows []api.Row) string {
	var words []string
	for _, r := range rows {
		switch {
		case r.Kind == api.RowBegin, r.Kind == api.RowAgain, r.Kind == api.RowReturn:
			words = append(words, fixture.Kind(r.Kind))
		case r.Kind == api.RowRelease:
			words = append(words, fmt.Sprintf("drop %d/%d", r.Object, r.Entry))
		case r.Puts:
			words = append(words, fmt.Sprintf("put %d %s", r.Object, short(r.Put)))
		case r.Told:
			words = append(words, fmt.Sprintf("get %d", r.Object))
		case r.End != api.EndNone:
			words = append(words, fixture.End(r.End))
		}
	}
	return strings.Join(words, ", ")
}

func short(v api.Value) string {
	text := fmt.Sprintf("%d>%d", v.Num, v.Next)
	if v.Dead {
		text += "!"
	}
	return text
}

// does runs a call and looks what it did between its begin and its return, and what it answers.
func (f *floor) does(j *intset.Job, want string, answer api.Answer) {
	f.Helper()
	if got := actions(f.Run(j)); got != "begin, "+want+", return" {
		f.Fatalf("did %q, want %q", got, want)
	}
	f.Answers(j, answer)
}
