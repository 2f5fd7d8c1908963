package order

import (
	"testing"

	"braid/api"
)

// counted is a full queue that counts its comparisons.
func counted(t *testing.T) (*Queue, *int) {
	t.Helper()
	q, n := New(), 0
	for id := range api.MaxOrder {
		if e := q.Add(api.Item{Key: id * 31 % 1009, ID: id}); e != api.OK {
			t.Fatalf("Add = %d", e)
		}
	}
	q.heap.before = func(a, b api.Item) bool {
		n++
		return before(a, b)
	}
	return q, &n
}

// Some log n comparisons a call: a heap of 4096 has 12 floors, and at most two comparisons are made at each.
func TestCost(t *testing.T) {
	const floors = 12
	q, n := counted(t)
	for id := range api.MaxOrder {
		calls := map[string]func() api.Errno{
			"Change": func() api.Errno { return q.Change(id, id*17%2003-1000) },
			"Drop":   func() api.Errno { return q.Drop(id) },
			"Add":    func() api.Errno { return q.Add(api.Item{Key: id * 13 % 509, ID: id}) },
		}
		for _, name := range []string{"Change", "Drop", "Add"} {
			*n = 0
			if e := calls[name](); e != api.OK || *n > 2*floors+2 {
				t.Fatalf("%s of ID %d = %d, with %d comparisons", name, id, e, *n)
			}
		}
	}
	for q.Len() > 0 {
		*n = 0
		if _, e := q.Take(); e != api.OK || *n > 2*floors+2 {
			t.Fatalf("Take = %d, with %d comparisons", e, *n)
		}
	}
}

// What goes is forgotten: the map holds the held items' IDs alone, each with its place.
func TestPlaces(t *testing.T) {
	q, _ := counted(t)
	for id := 0; id < api.MaxOrder; id += 2 {
		q.Drop(id)
		q.Take()
	}
	if len(q.places) != q.Len() {
		t.Errorf("%d places for %d items", len(q.places), q.Len())
	}
	for place, it := range q.heap.items {
		if at, held := q.places[it.ID]; !held || at != place {
			t.Errorf("ID %d stands at %d, the map says %d, %v", it.ID, place, at, held)
		}
	}
}
