package graph

import (
	"cmp"
	"slices"

	"braid/api"
	"braid/order"
)

// leads holds for each node the nodes to which its edges lead.
type leads map[int][]int

func leadsOf(edges []api.Edge) leads {
	lead := leads{}
	for _, e := range edges {
		lead[e.From] = append(lead[e.From], e.To)
	}
	return lead
}

// oneByOne lets the nodes come, each time the least of those for which nothing is waited any more. A node with an edge to
// itself waits for itself, so it never comes.
func oneByOne(n int, edges []api.Edge) []int {
	lead, ahead, ready := leadsOf(edges), make([]int, n), order.New()
	comes := func(node int) {
		if ahead[node] == 0 {
			ready.Add(api.Item{Key: node, ID: node}) // each node once, and MaxNodes is no more than MaxOrder
		}
	}
	for _, e := range edges {
		ahead[e.To]++
	}
	for node := range n {
		comes(node)
	}
	var list []int
	for ready.Len() > 0 {
		next, _ := ready.Take() // it is not empty
		list = append(list, next.ID)
		for _, to := range lead[next.ID] {
			ahead[to]--
			comes(to)
		}
	}
	return list
}

// parts finds all parts in one walk. A node stays on the trail until everything behind it has been gone through. If
// nothing there leads back to ahead of the node's own place, it is one part with all that is still on the trail behind it.
func parts(n int, lead leads) [][]int {
	told := n + 1 // behind every place: a part that has been told leads nobody back
	var all [][]int
	var trail []int
	back := make([]int, n) // the least place, from 1 on, to which a node is known to lead back; 0: it was not met yet
	var walk func(node int)
	walk = func(node int) {
		trail = append(trail, node)
		place := len(trail)
		back[node] = place
		for _, to := range lead[node] {
			if back[to] == 0 {
				walk(to)
			}
			back[node] = min(back[node], back[to])
		}
		if back[node] < place {
			return
		}
		part := slices.Clone(trail[place-1:])
		trail = trail[:place-1]
		for _, member := range part {
			back[member] = told
		}
		slices.Sort(part)
		all = append(all, part)
	}
	for node := range n {
		if back[node] == 0 {
			walk(node)
		}
	}
	slices.SortFunc(all, func(a, b []int) int { return cmp.Compare(a[0], b[0]) })
	return all
}

// distances tells for each node how many edges it takes at least to come to the goal; n: none lead there.
func distances(n int, edges []api.Edge, goal int) []int {
	from := leads{}
	for _, e := range edges {
		from[e.To] = append(from[e.To], e.From)
	}
	far := slices.Repeat([]int{n}, n)
	far[goal] = 0
	for wave := []int{goal}; len(wave) > 0; wave = wave[1:] {
		for _, node := range from[wave[0]] {
			if far[node] == n {
				far[node] = far[wave[0]] + 1
				wave = append(wave, node)
			}
		}
	}
	return far
}

// shortest goes from a node that lies on a cycle round to itself. The nearest next node keeps it as short as can be, and
// the least of the nearest makes it the least list.
func shortest(start int, lead leads, far []int) []int {
	nearer := func(a, b int) int { return cmp.Or(cmp.Compare(far[a], far[b]), cmp.Compare(a, b)) }
	list := []int{start}
	for node := slices.MinFunc(lead[start], nearer); node != start; node = slices.MinFunc(lead[node], nearer) {
		list = append(list, node)
	}
	return list
}

// reaches begins behind the first edge: the node from is met only where edges lead back to it.
func reaches(n int, lead leads, from, to int) bool {
	met := make([]bool, n)
	var walk func(node int) bool
	walk = func(node int) bool {
		for _, next := range lead[node] {
			if next == to {
				return true
			}
			if !met[next] {
				met[next] = true
				if walk(next) {
					return true
				}
			}
		}
		return false
	}
	return walk(from)
}
