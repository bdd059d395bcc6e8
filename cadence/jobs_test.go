package cadence_test

import (
	"strings"
	"sync"
	"testing"

	"cadence/api"
)

func TestJobsAlongTheWay(t *testing.T) {
	k := newKernel(t, set(task(20, 20, 0, compute(3), lock(0), compute(2), unlock(0), compute(1)), task(20, 20, 3, compute(2))), 0, 1)
	wantTicks(t, k, ".")
	arrive(t, k, 0, 0, 2, 2, 1)
	arrive(t, k, 1, 3, 1)
	a := api.Job{Task: 0, Arrived: 1, Released: 1, Done: -1, Left: 5}
	b := api.Job{Task: 1, Arrived: 1, Released: 4, Done: -1, Left: 1}
	wantJobs(t, k, a, b)
	for range 3 {
		wantTicks(t, k, "a")
		a.Left--
		wantJobs(t, k, a, b)
	}
	wantTicks(t, k, "B")
	b.Left, b.Done = 0, 5
	wantJobs(t, k, a, b)
	wantTicks(t, k, "a")
	a.Left--
	wantJobs(t, k, a, b)
	wantTicks(t, k, "A")
	a.Left, a.Done = 0, 7
	wantJobs(t, k, a, b)
	wantTicks(t, k, "...")
	wantJobs(t, k, a, b)
	wantLook(t, k, 10, 4)
}

func TestJobsInOrderOfArrival(t *testing.T) {
	// At one tick the order of the calls counts: not the number, not the
	// priority, not the release, not the end.
	k := newKernel(t, set(task(50, 50, 9, compute(2)), task(50, 50, 9, compute(2)), task(50, 50, 9, compute(2)), task(50, 50, 9, compute(2))), 1, 3, 0, 2)
	arrive(t, k, 2, 5, 2)
	arrive(t, k, 0, 0, 2)
	arrive(t, k, 3, 9, 1)
	arrive(t, k, 1, 1, 1)
	order := func(want string) {
		t.Helper()
		got := ""
		for _, job := range k.Jobs() {
			got += string(rune('a' + job.Task))
		}
		if got != want {
			t.Fatalf("Jobs() has %s, want %s", got, want)
		}
	}
	order("cadb")
	wantTicks(t, k, "aBA")
	order("cadb")
	wantTicks(t, k, "..cC..D.")
	order("cadb")
	wantTicks(t, k, strings.Repeat(".", 50))
	arrive(t, k, 3, 0, 2)
	arrive(t, k, 2, 0, 2)
	order("cadbdc")
	arrive(t, k, 1, 0, 2)
	wantTicks(t, k, "bB")
	arrive(t, k, 0, 0, 2)
	order("cadbdcba")
	wantTicks(t, k, "dDaAcC.")
	order("cadbdcba")
}

func TestJobsKept(t *testing.T) {
	k := newKernel(t, set(task(1, 1, 0, compute(1))), 0)
	var all []api.Job
	for i := range 3 * api.MaxKept {
		arrive(t, k, 0, 0, 1)
		told := append(all[max(0, len(all)-api.MaxKept):len(all):len(all)], api.Job{Arrived: i, Released: i, Done: -1, Left: 1})
		wantJobs(t, k, told...)
		wantTicks(t, k, "A")
		all = append(all, api.Job{Arrived: i, Released: i, Done: i + 1})
		wantJobs(t, k, all[max(0, len(all)-api.MaxKept):]...)
	}
}

func TestJobsKeptAreThoseDoneLast(t *testing.T) {
	// The first one that arrived is done last: it is told, and told first.
	quick := task(1, 1, 0, compute(1))
	slow := task(500, 500, 0, compute(2))
	k := newKernel(t, set(quick, slow), 1, 0)
	arrive(t, k, 1, 0, 2)
	first := api.Job{Task: 1, Done: -1, Left: 2}
	var all []api.Job
	for i := range api.MaxKept + 10 {
		arrive(t, k, 0, 0, 1)
		wantTicks(t, k, "A")
		all = append(all, api.Job{Arrived: i, Released: i, Done: i + 1})
	}
	last := all[10:]
	wantJobs(t, k, append([]api.Job{first}, last...)...)
	wantTicks(t, k, "bB")
	first.Left, first.Done = 0, 52
	wantJobs(t, k, append([]api.Job{first}, last[1:]...)...)
	// It is forgotten by its end, not by its arrival.
	for i := range api.MaxKept - 1 {
		arrive(t, k, 0, 0, 1)
		wantTicks(t, k, "A")
		if jobs := k.Jobs(); len(jobs) != api.MaxKept || jobs[0] != first || jobs[1].Arrived == 0 {
			t.Fatalf("%d behind it: %+v", i+1, jobs)
		}
	}
	arrive(t, k, 0, 0, 1)
	wantTicks(t, k, "A")
	if jobs := k.Jobs(); len(jobs) != api.MaxKept || jobs[0].Arrived != 52 || jobs[39].Done != 92 {
		t.Fatalf("MaxKept behind it: %+v", jobs)
	}
}

func TestJobsMost(t *testing.T) {
	tasks := repeat(api.MaxTasks, task(1, 1, 1, compute(1)))
	k := newKernel(t, tasks, 7, 6, 5, 4, 3, 2, 1, 0)
	for range api.MaxKept {
		arrive(t, k, 0, 0, 1)
		wantTicks(t, k, "A")
	}
	for range api.MaxJobs {
		for number := range tasks {
			arrive(t, k, number, 0, 1)
		}
		k.Tick()
	}
	arrive(t, k, 0, 0, 1) // its jobs have had all ticks, and made room
	jobs := k.Jobs()
	if len(jobs) != api.MaxKept+7*api.MaxJobs+1 {
		t.Fatalf("%d jobs", len(jobs))
	}
	for i, job := range jobs[1:] {
		if job.Arrived < jobs[i].Arrived || job.Arrived == jobs[i].Arrived && job.Task <= jobs[i].Task {
			t.Fatalf("%+v stands behind %+v", job, jobs[i])
		}
	}
}

func TestJobsAreTheCallers(t *testing.T) {
	k := newKernel(t, example2(), 2, 1, 0)
	arrive(t, k, 2, 0, 5, 1)
	arrive(t, k, 1, 2, 4)
	wantTicks(t, k, "cccccbbbBC")
	arrive(t, k, 0, 0, 1, 2)
	want := []api.Job{
		{Task: 2, Arrived: 0, Released: 0, Done: 10},
		{Task: 1, Arrived: 0, Released: 2, Done: 9},
		{Task: 0, Arrived: 10, Released: 10, Done: -1, Left: 3},
	}
	first, second := k.Jobs(), k.Jobs()
	wreck := func(jobs []api.Job) {
		jobs = append(jobs, api.Job{Task: 9})
		jobs = jobs[:cap(jobs)]
		for i := range jobs {
			jobs[i] = api.Job{Task: 7, Arrived: 7, Released: 700, Done: 7, Left: 700}
		}
	}
	wreck(first[:0])
	wreck(first[:2])
	wreck(first)
	for i, job := range second {
		if job != want[i] {
			t.Fatalf("two answers share memory: %+v", second)
		}
	}
	wreck(second)
	wantJobs(t, k, want...)
	wantTicks(t, k, "aaA.")
}

// TestAnswersStay: what was told goes on saying what was then.
func TestAnswersStay(t *testing.T) {
	k := newKernel(t, set(with(compute(3))), 0)
	arrive(t, k, 0, 0, 3)
	then := k.Jobs()
	wantTicks(t, k, "aaA")
	if len(then) != 1 || then[0] != (api.Job{Done: -1, Left: 3}) {
		t.Errorf("an answer became %+v", then)
	}
}

func TestAskedFromSeveralSides(t *testing.T) {
	const sides, rounds = api.MaxTasks, 500
	tasks := repeat(sides, task(1, 1, 0, lock(0), compute(1), unlock(0), compute(1)))
	k := newKernel(t, tasks, 7, 6, 5, 4, 3, 2, 1, 0)
	var group sync.WaitGroup
	arrived, done := make([]int, sides), make([]int, sides)
	for side := range sides {
		group.Go(func() {
			for range rounds {
				if k.Arrive(side, 0, 1, 1) == api.OK {
					arrived[side]++
				}
				if _, isDone := k.Tick(); isDone {
					done[side]++
				}
				k.Holds(side)
				k.Look()
				k.Jobs()
			}
		})
	}
	group.Wait()
	sum := 0
	for side := range sides {
		sum += arrived[side] - done[side]
	}
	for _, job := range k.Jobs() {
		if job.Done < 0 {
			sum--
		}
	}
	if sum != 0 || k.Look().Now != sides*rounds {
		t.Errorf("%d jobs too many, %+v", sum, k.Look())
	}
}
