package intset

import "braid/api"

// Empty is the value of a head without nodes, and of a node that is not linked yet (P13.7).
func Empty() api.Value { return api.Value{Next: none} }

// Keys tells the keys of the list that begins at head; false: the values are no such list (P13.7).
func Keys(values []api.Value, head int) ([]int64, bool) {
	if !isPlace(values, head) {
		return nil, false
	}
	var keys []int64
	for at := values[head].Next; at != none; at = values[at].Next {
		if at == head || !isPlace(values, at) || values[at].Dead || !rises(keys, values[at].Num) {
			return nil, false
		}
		keys = append(keys, values[at].Num)
	}
	return keys, true
}

func isPlace(values []api.Value, at int) bool { return at >= 0 && at < len(values) }

func rises(keys []int64, key int64) bool { return len(keys) == 0 || key > keys[len(keys)-1] }
