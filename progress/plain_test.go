package progress_test

import (
	"cmp"
	"slices"
	"testing"

	"braid/api"
	"braid/history"
)

// plainClashes is 21.6 by its words, one attempt behind the other.
func plainClashes(t *testing.T, rows []api.Row) []api.Clash {
	t.Helper()
	txs, e := history.Txs(rows)
	if e != api.OK {
		t.Fatalf("Txs = %d", e)
	}
	var list []api.Clash
	for _, x := range txs {
		list = append(list, ofAttempt(rows, x)...)
	}
	slices.SortFunc(list, func(a, b api.Clash) int { return cmp.Compare(a.From, b.From) })
	return list
}

// ofAttempt goes through an attempt's rows.
func ofAttempt(rows []api.Row, x api.Tx) []api.Clash {
	var list []*api.Clash
	var present, ahead *api.Clash // ahead: the one to which a RowDown would belong
	for _, r := range rows {
		if r.Attempt != x.Attempt || r.Kind < api.RowLocal || r.Kind > api.RowQuit {
			continue
		}
		down := ahead
		ahead = nil
		if slices.Contains([]int{api.RowMine, api.RowLook, api.RowUp, api.RowWait, api.RowKill}, r.Kind) && r.Enemy > -1 {
			if present != nil && present.Enemy != r.Enemy {
				present.Over, present = api.OverGone, nil
			}
			if present == nil {
				present = &api.Clash{Thread: x.Thread, Attempt: x.Attempt, Enemy: r.Enemy, Object: r.Object, Phase: r.Phase, From: r.Step}
				list = append(list, present)
			}
			present.To = r.Step
			if r.Kind == api.RowLook && r.Timeout {
				present.Timeout = true
			}
			if r.Kind == api.RowLook {
				present.Rounds++
			}
			if r.Kind == api.RowWait {
				present.Waited++
			}
			if r.Kind == api.RowKill {
				present.Over, ahead, present = api.OverKill, present, nil
			}
		}
		if r.Kind == api.RowStatus && present != nil && (r.Enemy != present.Enemy || r.Seen != api.Active) {
			present.Over, ahead, present = api.OverGone, present, nil
		}
		if r.Kind == api.RowDown && down != nil {
			down.To = r.Step
		}
		if r.End != api.EndNone && present != nil {
			present.Over, present = api.OverEnded, nil
		}
	}
	var all []api.Clash
	for _, c := range list {
		all = append(all, *c)
	}
	return all
}
