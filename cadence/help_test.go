package cadence_test

import (
	"math"
	"slices"
	"testing"

	"cadence/api"
	"cadence/cadence"
)

// extremes are numbers at which reckoning wraps round, or that are no index.
var extremes = []int{math.MinInt, math.MinInt + 1, math.MinInt32, -1, math.MaxInt32, math.MaxInt - 1, math.MaxInt}

func compute(n int) api.Step { return api.Step{Kind: api.Compute, N: n} }

func lock(r int) api.Step { return api.Step{Kind: api.Lock, N: r} }

func unlock(r int) api.Step { return api.Step{Kind: api.Unlock, N: r} }

func task(period, deadline, jitter int, program ...api.Step) api.Task {
	return api.Task{Period: period, Deadline: deadline, Jitter: jitter, Program: program}
}

// with is a task of which just the program matters.
func with(program ...api.Step) api.Task { return task(10, 10, 0, program...) }

func set(tasks ...api.Task) []api.Task { return tasks }

func repeat[T any](n int, x T) []T { return slices.Repeat([]T{x}, n) }

func wantCheck(t *testing.T, tasks []api.Task, e api.Errno, place int) {
	t.Helper()
	if gotE, gotPlace := cadence.Check(tasks); gotE != e || gotPlace != place {
		t.Errorf("Check(%+v) = %d, %d, want %d, %d", tasks, gotE, gotPlace, e, place)
	}
}

func wantBounds(t *testing.T, tasks []api.Task, priorities []int, bounds ...int) {
	t.Helper()
	got, e, place := cadence.Analyze(tasks, priorities)
	if !slices.Equal(got, bounds) || e != api.OK || place != 0 {
		t.Errorf("Analyze(%+v, %v) = %v, %d, %d, want %v", tasks, priorities, got, e, place, bounds)
	}
}

func wantNoBounds(t *testing.T, tasks []api.Task, priorities []int, e api.Errno, place int) {
	t.Helper()
	got, gotE, gotPlace := cadence.Analyze(tasks, priorities)
	if got != nil || gotE != e || gotPlace != place {
		t.Errorf("Analyze(%+v, %v) = %v, %d, %d, want nil, %d, %d", tasks, priorities, got, gotE, gotPlace, e, place)
	}
}
