package cadence_test

import (
	"strings"
	"testing"

	"cadence/api"
	"cadence/cadence"
)

// wantRefused is an Arrive that must change nothing.
func wantRefused(t *testing.T, k *cadence.Kernel, e api.Errno, task, jitter int, demands ...int) {
	t.Helper()
	ahead := stateOf(k)
	wantArrive(t, k, e, task, jitter, demands...)
	if after := stateOf(k); !after.equals(ahead) {
		t.Fatalf("Arrive(%d, %d, %v): %+v became %+v", task, jitter, demands, ahead, after)
	}
}

func TestArriveTask(t *testing.T) {
	k := newKernel(t, example2(), 2, 1, 0)
	for _, number := range append([]int{3, 4, api.MaxTasks}, extremes...) {
		wantRefused(t, k, api.ErrTask, number, 0, 1)
		wantRefused(t, k, api.ErrTask, number, -1)
	}
	arrive(t, k, 0, 0, 1, 2)
	arrive(t, k, 1, 0, 4)
	arrive(t, k, 2, 0, 5, 1)
	wantTicks(t, k, "aaAbbbBcccccC.")
}

func TestArriveEarly(t *testing.T) {
	k := newKernel(t, example2(), 2, 1, 0)
	wantTicks(t, k, "...")
	arrive(t, k, 0, 0, 1, 2)
	wantRefused(t, k, api.ErrEarly, 0, 0, 1, 2)
	wantTicks(t, k, "aaA")
	wantRefused(t, k, api.ErrEarly, 0, 0, 1, 2) // example 5
	wantTicks(t, k, "......")
	wantRefused(t, k, api.ErrEarly, 0, 0, 1, 2) // a Period less one
	wantTicks(t, k, ".")
	arrive(t, k, 0, 0, 1, 2) // just a Period
	wantTicks(t, k, "aaA..........")
	arrive(t, k, 0, 0, 1, 2)                    // more than a Period: from then on it counts
	wantRefused(t, k, api.ErrEarly, 0, 0, 1, 2) // not from the first job on
	wantTicks(t, k, "aaA......")
	wantRefused(t, k, api.ErrEarly, 0, 0, 1, 2)
	wantTicks(t, k, ".")
	arrive(t, k, 0, 0, 1, 2)
}

func TestArriveEarlyCountsFromArrival(t *testing.T) {
	// Neither the release nor the end of a job matters.
	k := newKernel(t, set(task(5, 5, 4, compute(1)), task(100, 100, 0, compute(9))), 0, 1)
	arrive(t, k, 1, 0, 9)
	arrive(t, k, 0, 4, 1)
	wantTicks(t, k, "bbbb")
	wantRefused(t, k, api.ErrEarly, 0, 0, 1)
	wantTicks(t, k, "b")
	arrive(t, k, 0, 0, 1)
	// Each task has its own Period.
	wantRefused(t, k, api.ErrEarly, 1, 0, 1)
	wantTicks(t, k, "bbbBAA")
	wantJobs(t, k,
		api.Job{Task: 1, Done: 9},
		api.Job{Task: 0, Released: 4, Done: 10},
		api.Job{Task: 0, Arrived: 5, Released: 5, Done: 11},
	)
}

func TestArriveRefusedDoesNotCount(t *testing.T) {
	k := newKernel(t, set(task(10, 10, 2, compute(3))), 0)
	wantRefused(t, k, api.ErrJitter, 0, 3, 3)
	wantRefused(t, k, api.ErrDemand, 0, 0, 4)
	arrive(t, k, 0, 0, 1)
	wantTicks(t, k, "A........")
	wantRefused(t, k, api.ErrEarly, 0, 0, 1)
	wantTicks(t, k, ".")
	wantRefused(t, k, api.ErrDemand, 0, 0, 4)
	arrive(t, k, 0, 0, 1)
}

func TestArriveEarlyBehindForgotten(t *testing.T) {
	k := newKernel(t, set(task(api.MaxPeriod, api.MaxPeriod, 0, compute(1)), task(1, 1, 0, compute(1))), 1, 0)
	arrive(t, k, 0, 0, 1)
	wantTicks(t, k, "A")
	for range api.MaxKept + 5 {
		arrive(t, k, 1, 0, 1)
		wantTicks(t, k, "B")
	}
	for _, job := range k.Jobs() {
		if job.Task == 0 {
			t.Fatalf("the first job is not forgotten: %+v", k.Jobs())
		}
	}
	wantTicks(t, k, strings.Repeat(".", api.MaxPeriod-1-k.Look().Now))
	wantRefused(t, k, api.ErrEarly, 0, 0, 1)
	wantTicks(t, k, ".")
	arrive(t, k, 0, 0, 1)
}

func TestArriveJitter(t *testing.T) {
	tasks := set(task(10, 10, 0, compute(1)), task(10, 10, 3, compute(1)), task(10, 10, 10, compute(1)))
	k := newKernel(t, tasks, 2, 1, 0)
	for number, given := range tasks {
		for _, jitter := range append([]int{given.Jitter + 1}, extremes...) {
			wantRefused(t, k, api.ErrJitter, number, jitter, 1)
		}
	}
	arrive(t, k, 0, 0, 1)
	arrive(t, k, 1, 3, 1)
	arrive(t, k, 2, 10, 1)
	wantTicks(t, k, "A..B......")
	arrive(t, k, 1, 0, 1)
	arrive(t, k, 2, 1, 1)
	wantTicks(t, k, "BCC.")
}

func TestArriveDemands(t *testing.T) {
	tasks := set(task(20, 20, 0, compute(3), lock(1), compute(2), unlock(1), compute(1)), task(20, 20, 0, compute(api.MaxCompute)))
	k := newKernel(t, tasks, 1, 0)
	for _, demands := range [][]int{
		nil, {3}, {3, 2}, {3, 2, 1, 1}, {3, 1, 2, 1, 1}, {0, 2, 1}, {3, 0, 1}, {3, 2, 0}, {4, 2, 1}, {3, 3, 1}, {3, 2, 2}, {2, 3, 1}, repeat(1000, 1),
	} {
		wantRefused(t, k, api.ErrDemand, 0, 0, demands...)
	}
	for _, n := range extremes {
		wantRefused(t, k, api.ErrDemand, 0, 0, n, 2, 1)
		wantRefused(t, k, api.ErrDemand, 0, 0, 3, n, 1)
		wantRefused(t, k, api.ErrDemand, 0, 0, 3, 2, n)
		wantRefused(t, k, api.ErrDemand, 1, 0, n)
	}
	wantRefused(t, k, api.ErrDemand, 1, 0, api.MaxCompute+1)
	arrive(t, k, 0, 0, 3, 2, 1)
	arrive(t, k, 1, 0, 1)
	wantTicks(t, k, "aaaaaAB.............")
	arrive(t, k, 0, 0, 1, 1, 1)
	arrive(t, k, 1, 0, api.MaxCompute)
	wantTicks(t, k, "aaA"+strings.Repeat("b", api.MaxCompute-1)+"B.")
}

func TestArriveFull(t *testing.T) {
	k := newKernel(t, set(task(1, 1, 1, compute(2)), task(100, 100, 0, compute(20)), task(1, 1, 0, compute(1))), 1, 2, 0)
	arrive(t, k, 1, 0, 20)
	for range api.MaxJobs {
		arrive(t, k, 0, 1, 2)
		wantTicks(t, k, "b")
	}
	wantRefused(t, k, api.ErrFull, 0, 0, 1)
	arrive(t, k, 2, 0, 1) // another task has room of its own
	wantTicks(t, k, "bbbbbbbbbbbBa")
	wantRefused(t, k, api.ErrFull, 0, 0, 2) // one that has begun is not done
	wantTicks(t, k, "A")
	arrive(t, k, 0, 0, 1)
	wantTicks(t, k, "a")
	wantRefused(t, k, api.ErrFull, 0, 0, 1)
	wantTicks(t, k, "AaAaAaAaAaAaAAC.")
}

// TestArriveFirstError has each sort of error with each other one.
func TestArriveFirstError(t *testing.T) {
	for mix := range 1 << 5 {
		wrongTask, early, wrongJitter, wrongDemand, full := mix&1 > 0, mix&2 > 0, mix&4 > 0, mix&8 > 0, mix&16 > 0
		k := newKernel(t, set(task(2, 2, 1, compute(2)), task(100, 100, 0, compute(50))), 0, 1)
		arrive(t, k, 1, 0, 50)
		jobs := 1
		if full {
			jobs = api.MaxJobs
		}
		for i := range jobs {
			if i > 0 {
				wantTicks(t, k, "bb")
			}
			arrive(t, k, 0, 0, 2)
		}
		wantTicks(t, k, "b")
		if !early {
			wantTicks(t, k, "b")
		}
		number, jitter, demand, e := 0, 1, 2, api.OK
		if full {
			e = api.ErrFull
		}
		if wrongDemand {
			demand, e = 3, api.ErrDemand
		}
		if wrongJitter {
			jitter, e = 2, api.ErrJitter
		}
		if early {
			e = api.ErrEarly
		}
		if wrongTask {
			number, e = 2, api.ErrTask
		}
		if e == api.OK {
			arrive(t, k, number, jitter, demand)
			continue
		}
		wantRefused(t, k, e, number, jitter, demand)
	}
}
