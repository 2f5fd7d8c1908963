package machine

import (
	"braid/api"
	"braid/cm"
	"braid/lang"
)

// Check tells whether a script may be (14.1).
func Check(s Script) api.Errno {
	if len(s.Objects) > api.MaxMap {
		return api.ErrObjects
	}
	if e := checkThreads(s.Threads); e != api.OK {
		return e
	}
	if _, e := cm.New(s.Manager, s.Patience); e != api.OK {
		return e
	}
	if len(s.Draws) > api.MaxDraws {
		return api.ErrDraws
	}
	if len(s.Picks) > api.MaxPicks {
		return api.ErrPicks
	}
	return api.OK
}

// checkThreads counts all threads' jobs ahead of looking at any of them.
func checkThreads(threads [][]Job) api.Errno {
	if len(threads) < 1 || len(threads) > api.MaxThreads {
		return api.ErrThreads
	}
	for _, jobs := range threads {
		if len(jobs) > api.MaxJobs {
			return api.ErrJobs
		}
	}
	for _, jobs := range threads {
		for _, j := range jobs {
			if e := checkJob(j); e != api.OK {
				return e
			}
		}
	}
	return api.OK
}

func checkJob(j Job) api.Errno {
	if !j.plain() {
		return api.ErrJob
	}
	e, _ := lang.Check(j.Program)
	return e
}

// plain tells whether a job is of a kind that there is, with nothing that its kind does not take.
func (j Job) plain() bool {
	switch j.Kind {
	case api.JobProgram:
		return j.Key == 0 && j.Other == 0
	case api.JobInsert, api.JobRemove, api.JobContains:
		return len(j.Program) == 0 && j.Other == 0
	case api.JobLeast, api.JobSize:
		return len(j.Program) == 0 && j.Key == 0 && j.Other == 0
	case api.JobMove:
		return len(j.Program) == 0
	}
	return false
}
