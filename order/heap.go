package order

// heap keeps at place 0 one that none of the others is before.
type heap[T any] struct {
	items  []T
	before func(a, b T) bool
	placed func(x T, place int) // is told wherever an item comes to stand, so that it can be found again
}

// put takes one more in.
func (h *heap[T]) put(x T) {
	h.items = append(h.items, x)
	last := len(h.items) - 1
	h.placed(x, last)
	h.rise(last)
}

// cut takes out what stands at a place.
func (h *heap[T]) cut(place int) T {
	last := len(h.items) - 1
	h.swap(place, last)
	gone := h.items[last]
	h.items = h.items[:last]
	if place < last {
		h.settle(place)
	}
	return gone
}

// change lays another one at a place.
func (h *heap[T]) change(place int, x T) {
	h.items[place] = x
	h.placed(x, place)
	h.settle(place)
}

// settle brings one that may stand too high or too low to where it belongs.
func (h *heap[T]) settle(place int) {
	if !h.rise(place) {
		h.sink(place)
	}
}

// rise lifts one over all that it is before, and tells whether it moved.
func (h *heap[T]) rise(place int) bool {
	from := place
	for place > 0 {
		above := (place - 1) / 2
		if !h.before(h.items[place], h.items[above]) {
			break
		}
		h.swap(place, above)
		place = above
	}
	return place != from
}

// sink lowers one under all that are before it.
func (h *heap[T]) sink(place int) {
	for {
		below := h.firstBelow(place)
		if below < 0 || !h.before(h.items[below], h.items[place]) {
			return
		}
		h.swap(place, below)
		place = below
	}
}

// firstBelow tells which of the two places right below one holds what comes first; -1: there is none.
func (h *heap[T]) firstBelow(place int) int {
	left := 2*place + 1
	right := left + 1
	switch {
	case left >= len(h.items):
		return -1
	case right < len(h.items) && h.before(h.items[right], h.items[left]):
		return right
	}
	return left
}

func (h *heap[T]) swap(i, j int) {
	h.items[i], h.items[j] = h.items[j], h.items[i]
	h.placed(h.items[i], i)
	h.placed(h.items[j], j)
}
