package cadence_test

import (
	"math"
	"slices"
	"testing"

	"cadence/api"
	"cadence/cadence"
)

// extremes are numbers at which reckoning wraps round, or that are no index.
var extremes = []int{math.MinInt, math.MinInt + 1, math.MinInt32, -1, math.MaxInt32, math.MaxInt - 1, math.MaxInt}

func compute(n int) api.Step { return api.Step{Kind: api.Compute, N: n} }

func lock(r int) api.Step { return api.Step{Kind: api.Lock, N: r} }

func unlock(r int) api.Step { return api.Step{Kind: api.Unlock, N: r} }

func task(period, deadline, jitter int, program ...api.Step) api.Task {
	return api.Task{Period: period, Deadline: deadline, Jitter: jitter, Program: program}
}

// with is a task of which just the program matters.
func with(program ...api.Step) api.Task { return task(10, 10, 0, program...) }

func set(tasks ...api.Task) []api.Task { return tasks }

func repeat[T any](n int, x T) []T { return slices.Repeat([]T{x}, n) }

func wantCheck(t *testing.T, tasks []api.Task, e api.Errno, place int) {
	t.Helper()
	if gotE, gotPlace := cadence.Check(tasks); gotE != e || gotPlace != place {
		t.Errorf("Check(%+v) = %d, %d, want %d, %d", tasks, gotE, gotPlace, e, place)
	}
}

func wantBounds(t *testing.T, tasks []api.Task, priorities []int, bounds ...int) {
	t.Helper()
	got, e, place := cadence.Analyze(tasks, priorities)
	if !slices.Equal(got, bounds) || e != api.OK || place != 0 {
		t.Errorf("Analyze(%+v, %v) = %v, %d, %d, want %v", tasks, priorities, got, e, place, bounds)
	}
}

func wantNoBounds(t *testing.T, tasks []api.Task, priorities []int, e api.Errno, place int) {
	t.Helper()
	got, gotE, gotPlace := cadence.Analyze(tasks, priorities)
	if got != nil || gotE != e || gotPlace != place {
		t.Errorf("Analyze(%+v, %v) = %v, %d, %d, want nil, %d, %d", tasks, priorities, got, gotE, gotPlace, e, place)
	}
}

func wantAssign(t *testing.T, tasks []api.Task, priorities ...int) {
	t.Helper()
	got, e, place := cadence.Assign(tasks)
	if !slices.Equal(got, priorities) || e != api.OK || place != 0 {
		t.Errorf("Assign(%+v) = %v, %d, %d, want %v", tasks, got, e, place, priorities)
	}
}

func wantNoAssign(t *testing.T, tasks []api.Task, e api.Errno, place int) {
	t.Helper()
	got, gotE, gotPlace := cadence.Assign(tasks)
	if got != nil || gotE != e || gotPlace != place {
		t.Errorf("Assign(%+v) = %v, %d, %d, want nil, %d, %d", tasks, got, gotE, gotPlace, e, place)
	}
}

func newKernel(t *testing.T, tasks []api.Task, priorities ...int) *cadence.Kernel {
	t.Helper()
	k, e, place := cadence.New(tasks, priorities)
	if k == nil || e != api.OK || place != 0 {
		t.Fatalf("New(%+v, %v) = %v, %d, %d", tasks, priorities, k, e, place)
	}
	return k
}

func wantNoKernel(t *testing.T, tasks []api.Task, priorities []int, e api.Errno, place int) {
	t.Helper()
	k, gotE, gotPlace := cadence.New(tasks, priorities)
	if k != nil || gotE != e || gotPlace != place {
		t.Errorf("New(%+v, %v) = %v, %d, %d, want nil, %d, %d", tasks, priorities, k, gotE, gotPlace, e, place)
	}
}

func wantArrive(t *testing.T, k *cadence.Kernel, e api.Errno, task, jitter int, demands ...int) {
	t.Helper()
	if got := k.Arrive(task, jitter, demands...); got != e {
		t.Fatalf("at tick %d: Arrive(%d, %d, %v) = %d, want %d", k.Look().Now, task, jitter, demands, got, e)
	}
}

// arrive is for jobs that may arrive.
func arrive(t *testing.T, k *cadence.Kernel, task, jitter int, demands ...int) {
	t.Helper()
	wantArrive(t, k, api.OK, task, jitter, demands...)
}

// wantTicks has a letter for each tick: a is task 0, A is task 0 with a job that
// is done with the tick, a point is no job.
func wantTicks(t *testing.T, k *cadence.Kernel, want string) {
	t.Helper()
	from, got := k.Look().Now, ""
	for range want {
		got += tick(t, k)
	}
	if got != want {
		t.Fatalf("from tick %d: %s, want %s", from, got, want)
	}
}

func tick(t *testing.T, k *cadence.Kernel) string {
	t.Helper()
	task, done := k.Tick()
	switch {
	case task == -1 && !done:
		return "."
	case task < 0 || task >= api.MaxTasks:
		t.Fatalf("Tick() = %d, %v", task, done)
	case done:
		return string(rune('A' + task))
	}
	return string(rune('a' + task))
}

// wantHolds has the holder of each resource, and -1 for those behind.
func wantHolds(t *testing.T, k *cadence.Kernel, holders ...int) {
	t.Helper()
	for r := range api.MaxResources {
		want := -1
		if r < len(holders) {
			want = holders[r]
		}
		if got, e := k.Holds(r); got != want || e != api.OK {
			t.Fatalf("at tick %d: Holds(%d) = %d, %d, want %d", k.Look().Now, r, got, e, want)
		}
	}
}

func wantJobs(t *testing.T, k *cadence.Kernel, jobs ...api.Job) {
	t.Helper()
	if got := k.Jobs(); !slices.Equal(got, jobs) {
		t.Fatalf("at tick %d: Jobs() = %+v, want %+v", k.Look().Now, got, jobs)
	}
}

func wantLook(t *testing.T, k *cadence.Kernel, now, idle int) {
	t.Helper()
	if got := k.Look(); got != (api.Look{Now: now, Idle: idle}) {
		t.Fatalf("Look() = %+v, want %d, %d", got, now, idle)
	}
}

// state is all that a kernel tells without changing.
type state struct {
	holders [api.MaxResources]int
	jobs    []api.Job
	look    api.Look
}

func stateOf(k *cadence.Kernel) state {
	s := state{jobs: k.Jobs(), look: k.Look()}
	for r := range s.holders {
		s.holders[r], _ = k.Holds(r)
	}
	return s
}

func (s state) equals(other state) bool {
	return s.holders == other.holders && s.look == other.look && slices.Equal(s.jobs, other.jobs)
}
