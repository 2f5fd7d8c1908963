package order_test

import (
	"math"
	"slices"
	"testing"

	"braid/api"
	"braid/order"
)

// edges are the keys and IDs at which a difference or a narrower number would break.
var edges = []int{
	math.MinInt, math.MinInt + 1, math.MinInt / 2, -1 << 32, -1<<31 - 1, -1 << 31, -2, -1,
	0, 1, 2, 1<<31 - 1, 1 << 31, 1 << 32, math.MaxInt/2 + 1, math.MaxInt - 1, math.MaxInt,
}

func item(key, id int) api.Item { return api.Item{Key: key, ID: id} }

// comesFirst is the chapter's 'before', told a second time.
func comesFirst(a, b api.Item) int {
	switch {
	case a.Key < b.Key || a.Key == b.Key && a.ID < b.ID:
		return -1
	case a == b:
		return 0
	}
	return 1
}

func sorted(items []api.Item) []api.Item {
	list := slices.Clone(items)
	slices.SortStableFunc(list, comesFirst)
	return list
}

// dice gives the same numbers at every run.
type dice uint64

func (d *dice) below(n int) int {
	*d ^= *d << 13
	*d ^= *d >> 7
	*d ^= *d << 17
	return int(uint64(*d) % uint64(n))
}

// plain is a queue kept as a list in no order: what the chapter asks, by walks over all items.
type plain struct{ items []api.Item }

func (p *plain) find(id int) int {
	return slices.IndexFunc(p.items, func(it api.Item) bool { return it.ID == id })
}

func (p *plain) add(it api.Item) api.Errno {
	if p.find(it.ID) >= 0 {
		return api.ErrOrderHeld
	}
	if len(p.items) >= 4096 {
		return api.ErrOrderFull
	}
	p.items = append(p.items, it)
	return api.OK
}

func (p *plain) least() (api.Item, api.Errno) {
	if len(p.items) == 0 {
		return api.Item{}, api.ErrOrderEmpty
	}
	return slices.MinFunc(p.items, comesFirst), api.OK
}

func (p *plain) take() (api.Item, api.Errno) {
	it, e := p.least()
	if e == api.OK {
		p.drop(it.ID)
	}
	return it, e
}

func (p *plain) key(id int) (int, api.Errno) {
	if i := p.find(id); i >= 0 {
		return p.items[i].Key, api.OK
	}
	return 0, api.ErrOrderNone
}

func (p *plain) change(id, key int) api.Errno {
	i := p.find(id)
	if i < 0 {
		return api.ErrOrderNone
	}
	p.items[i].Key = key
	return api.OK
}

func (p *plain) drop(id int) api.Errno {
	i := p.find(id)
	if i < 0 {
		return api.ErrOrderNone
	}
	p.items = slices.Delete(p.items, i, i+1)
	return api.OK
}

func wantErr(t *testing.T, call string, got, want api.Errno) {
	t.Helper()
	if got != want {
		t.Errorf("%s = %d, want %d", call, got, want)
	}
}

func wantItem(t *testing.T, call string, got api.Item, e api.Errno, want api.Item, we api.Errno) {
	t.Helper()
	if got != want || e != we {
		t.Errorf("%s = %v, %d, want %v, %d", call, got, e, want, we)
	}
}

func wantItems(t *testing.T, call string, got, want []api.Item) {
	t.Helper()
	if !slices.Equal(got, want) {
		t.Errorf("%s = %v, want %v", call, got, want)
	}
}

// wantHeld looks at a queue from all sides that leave it as it is.
func wantHeld(t *testing.T, q *order.Queue, p *plain) {
	t.Helper()
	if q.Len() != len(p.items) {
		t.Errorf("Len = %d, want %d", q.Len(), len(p.items))
	}
	it, e := q.Least()
	want, we := p.least()
	wantItem(t, "Least", it, e, want, we)
	wantItems(t, "Items", q.Items(), sorted(p.items))
	for _, it := range p.items {
		if k, e := q.Key(it.ID); k != it.Key || e != api.OK {
			t.Errorf("Key(%d) = %d, %d, want %d", it.ID, k, e, it.Key)
		}
	}
}

// addAll adds items to a queue and to its plain twin.
func addAll(t *testing.T, q *order.Queue, p *plain, items ...api.Item) {
	t.Helper()
	for _, it := range items {
		wantErr(t, "Add", q.Add(it), api.OK)
		p.add(it)
	}
}

// takeAll empties a queue, and looks that the items come in their order.
func takeAll(t *testing.T, q *order.Queue, want []api.Item) {
	t.Helper()
	for _, w := range want {
		it, e := q.Take()
		wantItem(t, "Take", it, e, w, api.OK)
	}
	it, e := q.Take()
	wantItem(t, "Take of the empty queue", it, e, api.Item{}, api.ErrOrderEmpty)
	if q.Len() != 0 {
		t.Errorf("Len = %d behind the last Take", q.Len())
	}
}

func TestExampleTakes(t *testing.T) {
	q := order.New()
	addAll(t, q, &plain{}, item(5, 1), item(3, 9), item(3, 2))
	it, e := q.Least()
	wantItem(t, "Least", it, e, item(3, 2), api.OK)
	takeAll(t, q, []api.Item{item(3, 2), item(3, 9), item(5, 1)})
}

func TestExampleChange(t *testing.T) {
	q := order.New()
	wantErr(t, "Add", q.Add(item(1, 7)), api.OK)
	wantErr(t, "Add again", q.Add(item(2, 7)), api.ErrOrderHeld)
	if k, e := q.Key(7); k != 1 || e != api.OK {
		t.Errorf("Key(7) = %d, %d", k, e)
	}
	wantErr(t, "Change", q.Change(7, -4), api.OK)
	it, e := q.Least()
	wantItem(t, "Least", it, e, item(-4, 7), api.OK)
	wantErr(t, "Change(8, 0)", q.Change(8, 0), api.ErrOrderNone)
	wantItems(t, "Items", q.Items(), []api.Item{item(-4, 7)})
}

func TestExampleDrop(t *testing.T) {
	q := order.New()
	addAll(t, q, &plain{}, item(0, 1), item(0, 2), item(0, 3))
	wantErr(t, "Drop", q.Drop(1), api.OK)
	wantErr(t, "Drop again", q.Drop(1), api.ErrOrderNone)
	wantErr(t, "Add", q.Add(item(9, 1)), api.OK)
	wantItems(t, "Items", q.Items(), []api.Item{item(0, 2), item(0, 3), item(9, 1)})
	if q.Len() != 3 {
		t.Errorf("Len = %d", q.Len())
	}
}

func TestExampleEnds(t *testing.T) {
	q := order.New()
	addAll(t, q, &plain{}, item(math.MaxInt, 1), item(math.MinInt, 2))
	takeAll(t, q, []api.Item{item(math.MinInt, 2), item(math.MaxInt, 1)})
}

func TestExampleFull(t *testing.T) {
	q := order.New()
	for id := 1; id <= api.MaxOrder; id++ {
		wantErr(t, "Add", q.Add(item(id%7, id)), api.OK)
	}
	before := q.Items()
	wantErr(t, "Add one more", q.Add(item(0, 5000)), api.ErrOrderFull)
	wantErr(t, "Add a held one", q.Add(item(0, 7)), api.ErrOrderHeld)
	wantItems(t, "Items behind the refusals", q.Items(), before)
	it, e := q.Take()
	wantItem(t, "Take", it, e, item(0, 7), api.OK)
	wantErr(t, "Add behind a Take", q.Add(item(0, 5000)), api.OK)
	wantErr(t, "Add one more again", q.Add(item(0, 7)), api.ErrOrderFull)
	wantErr(t, "Drop", q.Drop(5000), api.OK)
	wantErr(t, "Change", q.Change(8, 3), api.OK)
	wantErr(t, "Add behind a Drop", q.Add(item(0, 7)), api.OK)
	wantErr(t, "Change of a full queue", q.Change(9, 3), api.OK)
	wantErr(t, "Add to the full queue", q.Add(item(0, 8000)), api.ErrOrderFull)
	if q.Len() != 4096 {
		t.Errorf("Len = %d", q.Len())
	}
}

// Every pair of edges as keys, and as IDs of one key: keys are compared, never subtracted.
func TestBefore(t *testing.T) {
	for _, a := range edges {
		for _, b := range edges {
			if a == b {
				continue
			}
			keys := order.New()
			addAll(t, keys, &plain{}, item(a, 1), item(b, 2))
			takeAll(t, keys, sorted([]api.Item{item(a, 1), item(b, 2)}))
			ids := order.New()
			addAll(t, ids, &plain{}, item(4, a), item(4, b))
			takeAll(t, ids, []api.Item{item(4, min(a, b)), item(4, max(a, b))})
		}
	}
}

func TestEmpty(t *testing.T) {
	used := order.New()
	addAll(t, used, &plain{}, item(1, 1), item(2, 2))
	takeAll(t, used, []api.Item{item(1, 1), item(2, 2)})
	var none *order.Queue
	for name, q := range map[string]*order.Queue{"new": order.New(), "zero": {}, "nil": none, "emptied": used} {
		t.Run(name, func(t *testing.T) {
			wantHeld(t, q, &plain{})
			takeAll(t, q, nil)
			for _, id := range append([]int{1, 2}, edges...) {
				if k, e := q.Key(id); k != 0 || e != api.ErrOrderNone {
					t.Errorf("Key(%d) = %d, %d", id, k, e)
				}
				wantErr(t, "Change", q.Change(id, 5), api.ErrOrderNone)
				wantErr(t, "Drop", q.Drop(id), api.ErrOrderNone)
			}
			wantHeld(t, q, &plain{})
		})
	}
}

func TestNilTakesNothing(t *testing.T) {
	var q *order.Queue
	for _, id := range edges {
		wantErr(t, "Add", q.Add(item(id, id)), api.ErrOrderFull)
		wantErr(t, "Add again", q.Add(item(id, id)), api.ErrOrderFull)
		wantHeld(t, q, &plain{})
	}
}

// The zero Queue, each call first once.
func TestZero(t *testing.T) {
	var q order.Queue
	p := &plain{}
	addAll(t, &q, p, item(2, 2), item(1, 1), item(0, 3))
	wantHeld(t, &q, p)
	wantErr(t, "Change", q.Change(3, 9), api.OK)
	wantErr(t, "Drop", q.Drop(1), api.OK)
	takeAll(t, &q, []api.Item{item(2, 2), item(9, 3)})
	addAll(t, &q, &plain{}, item(6, 1))
	takeAll(t, &q, []api.Item{item(6, 1)})
}

func TestQueuesApart(t *testing.T) {
	a, b := order.New(), order.New()
	pa, pb := &plain{}, &plain{}
	addAll(t, a, pa, item(1, 1), item(2, 2))
	addAll(t, b, pb, item(8, 1), item(7, 2), item(6, 3))
	wantErr(t, "Drop", a.Drop(2), api.OK)
	pa.drop(2)
	wantErr(t, "Change", b.Change(1, 0), api.OK)
	pb.change(1, 0)
	wantHeld(t, a, pa)
	wantHeld(t, b, pb)
}

// A refusal leaves the queue as it was, and the same key is no refusal.
func TestRefusalsChangeNothing(t *testing.T) {
	q, p := order.New(), &plain{}
	addAll(t, q, p, item(4, 40), item(math.MinInt, 3), item(4, 2), item(9, math.MinInt), item(0, 0))
	for _, it := range slices.Clone(p.items) {
		for _, key := range edges {
			wantErr(t, "Add of a held ID", q.Add(item(key, it.ID)), api.ErrOrderHeld)
		}
		wantErr(t, "Change to the same key", q.Change(it.ID, it.Key), api.OK)
		wantHeld(t, q, p)
	}
	for _, id := range []int{1, -1, 39, 41, math.MaxInt, math.MinInt + 1} {
		if k, e := q.Key(id); k != 0 || e != api.ErrOrderNone {
			t.Errorf("Key(%d) = %d, %d", id, k, e)
		}
		wantErr(t, "Change", q.Change(id, 1), api.ErrOrderNone)
		wantErr(t, "Drop", q.Drop(id), api.ErrOrderNone)
		wantHeld(t, q, p)
	}
}

// From every item of a heap of every small size, in many arrangements: a Drop, and a Change to each other place in the order.
func TestEveryPlace(t *testing.T) {
	d := dice(9)
	for n := 1; n <= 14; n++ {
		for range 25 {
			keys := mixed(&d, n)
			for id := range n {
				q, p := filled(t, keys)
				wantErr(t, "Drop", q.Drop(id), p.drop(id))
				for more := range 8 { // a fault at the heap's end would mend itself, if the end were moved next
					addAll(t, q, p, item(2*n, n+more))
				}
				takeAll(t, q, sorted(p.items))
				for key := -1; key <= 2*n; key++ {
					q, p := filled(t, keys)
					wantErr(t, "Change", q.Change(id, key), p.change(id, key))
					takeAll(t, q, sorted(p.items))
				}
			}
		}
	}
}

// mixed is the even numbers below 2n in a drawn order.
func mixed(d *dice, n int) []int {
	keys := make([]int, n)
	for i := range keys {
		at := d.below(i + 1)
		keys[i] = keys[at]
		keys[at] = 2 * i
	}
	return keys
}

// filled is a queue with these keys, the IDs from 0 on.
func filled(t *testing.T, keys []int) (*order.Queue, *plain) {
	t.Helper()
	q, p := order.New(), &plain{}
	for id, key := range keys {
		addAll(t, q, p, item(key, id))
	}
	return q, p
}

// Long runs of mixed calls beside the plain queue, over few keys and IDs so that they meet, and over the edges.
func TestAgainstPlain(t *testing.T) {
	small := []int{-3, -2, -1, 0, 1, 2, 3, 4, 5, 6, 7, 8, 9, 10, 11, 12, 13, 14, 15, 16, 17, 18, 19, 20}
	for seed := range 60 {
		d := dice(seed + 1)
		numbers := small
		if seed%3 == 0 {
			numbers = edges
		}
		q, p := order.New(), &plain{}
		for range 400 {
			mixedCall(t, &d, numbers, q, p)
		}
		wantHeld(t, q, p)
		takeAll(t, q, sorted(p.items))
	}
}

func mixedCall(t *testing.T, d *dice, numbers []int, q *order.Queue, p *plain) {
	t.Helper()
	id, key := numbers[d.below(len(numbers))], numbers[d.below(len(numbers))]
	switch d.below(8) {
	case 0, 1, 2:
		wantErr(t, "Add", q.Add(item(key, id)), p.add(item(key, id)))
	case 3:
		it, e := q.Take()
		want, we := p.take()
		wantItem(t, "Take", it, e, want, we)
	case 4:
		wantErr(t, "Drop", q.Drop(id), p.drop(id))
	case 5, 6:
		wantErr(t, "Change", q.Change(id, key), p.change(id, key))
	case 7:
		k, e := q.Key(id)
		if want, we := p.key(id); k != want || e != we {
			t.Errorf("Key(%d) = %d, %d, want %d, %d", id, k, e, want, we)
		}
	}
	wantHeld(t, q, p)
}

// The same items, come in by three ways, are told and taken alike.
func TestHowTheyCameIn(t *testing.T) {
	items := []api.Item{item(3, 1), item(1, 2), item(1, 3), item(2, 4), item(1, 5), item(0, 6)}
	straight, back, detour := order.New(), order.New(), order.New()
	addAll(t, straight, &plain{}, items...)
	slices.Reverse(items)
	addAll(t, back, &plain{}, items...)
	for _, it := range items {
		addAll(t, detour, &plain{}, item(-it.Key, it.ID), item(0, 100+it.ID))
	}
	for _, it := range items {
		wantErr(t, "Drop", detour.Drop(100+it.ID), api.OK)
		wantErr(t, "Change", detour.Change(it.ID, it.Key), api.OK)
	}
	for _, q := range []*order.Queue{straight, back, detour} {
		wantItems(t, "Items", q.Items(), sorted(items))
		takeAll(t, q, sorted(items))
	}
}

// A full queue, through every call: the last items come as the first ones did.
func TestFullRun(t *testing.T) {
	q, p := order.New(), &plain{}
	d := dice(77)
	for id := range api.MaxOrder {
		it := item(d.below(1000)-500, id)
		wantErr(t, "Add", q.Add(it), api.OK)
		p.items = append(p.items, it)
	}
	for id := 0; id < api.MaxOrder; id += 3 {
		key := d.below(1000) - 500
		wantErr(t, "Change", q.Change(id, key), api.OK)
		p.items[id].Key = key
	}
	for id := 1; id < api.MaxOrder; id += 5 {
		wantErr(t, "Drop", q.Drop(id), p.drop(id))
	}
	wantItems(t, "Items", q.Items(), sorted(p.items))
	takeAll(t, q, sorted(p.items))
}

func TestItemsAreNew(t *testing.T) {
	q, p := order.New(), &plain{}
	addAll(t, q, p, item(3, 3), item(1, 1), item(2, 2))
	a, b := q.Items(), q.Items()
	spoil(a)
	wantItems(t, "the other list", b, sorted(p.items))
	wantHeld(t, q, p)
	spoil(b)
	wantHeld(t, q, p)
	addAll(t, q, p, item(0, 4))
	wantHeld(t, q, p)
}

// spoil writes over all of a list, its spare room too.
func spoil(list []api.Item) {
	list = list[:cap(list)]
	for i := range list {
		list[i] = item(-99, 99)
	}
}

func TestExampleSort(t *testing.T) {
	in := []api.Item{item(2, 1), item(1, 5), item(2, 1), item(1, 4)}
	want := []api.Item{item(1, 4), item(1, 5), item(2, 1), item(2, 1)}
	wantItems(t, "Sort", order.Sort(in), want)
	wantItems(t, "Firsts 3", order.Firsts(in, 3), want[:3])
	wantItems(t, "Firsts 0", order.Firsts(in, 0), nil)
	wantItems(t, "Firsts -1", order.Firsts(in, -1), nil)
	wantItems(t, "Firsts 9", order.Firsts(in, 9), want)
}

func TestSortOfNothing(t *testing.T) {
	for _, in := range [][]api.Item{nil, {}} {
		wantItems(t, "Sort", order.Sort(in), nil)
		for _, n := range edges {
			wantItems(t, "Firsts", order.Firsts(in, n), nil)
		}
	}
}

// Lists of every small length and of two greater ones, over few numbers so that Items occur many times, and over the edges.
func TestSortAndFirsts(t *testing.T) {
	d := dice(5)
	for length := range 40 {
		for _, numbers := range [][]int{{0}, {1, 2}, {-1, 0, 1, 2, 3}, edges} {
			in := rolled(&d, numbers, length)
			for _, n := range append([]int{3, 5, length - 1, length, length + 1}, edges...) {
				wantFirsts(t, in, n)
			}
		}
	}
	for _, length := range []int{api.MaxOrder, 3*api.MaxOrder + 1} {
		in := rolled(&d, edges, length)
		for _, n := range []int{1, 100, api.MaxOrder - 1, api.MaxOrder, api.MaxOrder + 1, length, math.MaxInt} {
			wantFirsts(t, in, n)
		}
	}
}

func rolled(d *dice, numbers []int, length int) []api.Item {
	list := make([]api.Item, length)
	for i := range list {
		list[i] = item(numbers[d.below(len(numbers))], numbers[d.below(len(numbers))])
	}
	return list
}

// wantFirsts looks at Sort and Firsts of one list, and that the list is as it was.
func wantFirsts(t *testing.T, in []api.Item, n int) {
	t.Helper()
	given := slices.Clone(in)
	want := sorted(in)
	wantItems(t, "Sort", order.Sort(given), want)
	wantItems(t, "the list that Sort was given", given, in)
	wantItems(t, "Firsts", order.Firsts(given, n), want[:max(0, min(n, len(want)))])
	wantItems(t, "the list that Firsts was given", given, in)
}

func TestSortAnswersAreNew(t *testing.T) {
	for _, in := range [][]api.Item{{item(1, 1)}, {item(1, 1), item(2, 2)}, {item(2, 2), item(1, 1), item(1, 1)}} {
		given := slices.Clone(in)
		want := sorted(in)
		all, firsts, again := order.Sort(given), order.Firsts(given, len(in)), order.Sort(given)
		spoil(all)
		wantItems(t, "the given list", given, in)
		wantItems(t, "Firsts beside Sort", firsts, want)
		spoil(firsts)
		wantItems(t, "the given list", given, in)
		spoil(given)
		wantItems(t, "Sort behind a change of the list", again, want)
	}
}
