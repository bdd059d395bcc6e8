package cadence_test

import (
	"cmp"
	"math/rand/v2"
	"slices"
	"testing"

	"cadence/api"
	"cadence/cadence"
)

// drawSet draws tasks and priorities: with slack 0 they mostly have more to do
// than there is time; the greater it is, the more often there are bounds.
func drawSet(draw *rand.Rand, slack int) ([]api.Task, []int) {
	tasks := make([]api.Task, 1+draw.IntN(api.MaxTasks))
	lockers := draw.IntN(2) == 0
	for i := range tasks {
		tasks[i] = drawTask(draw)
		if lockers {
			tasks[i].Program = drawLocker(draw)
		}
		if slack == 0 {
			tasks[i].Period = 1 + draw.IntN(30)
			tasks[i].Deadline = 1 + draw.IntN(tasks[i].Period)
			tasks[i].Jitter = draw.IntN(tasks[i].Deadline + 1)
			continue
		}
		demand := sumOfComputes(tasks[i].Program)
		tasks[i].Period = demand * (1 + len(tasks) + draw.IntN(slack))
		tasks[i].Deadline = tasks[i].Period - draw.IntN(1+tasks[i].Period/4)
		tasks[i].Jitter = draw.IntN(1 + tasks[i].Deadline/4)
	}
	if slack == 0 {
		return tasks, draw.Perm(len(tasks))
	}
	return tasks, byDeadline(tasks)
}

// drawLocker draws a program that is in a section most of the time.
func drawLocker(draw *rand.Rand) []api.Step {
	outer := draw.IntN(3)
	inner := (outer + 1 + draw.IntN(2)) % 3
	steps := []api.Step{lock(outer), compute(1 + draw.IntN(5))}
	if draw.IntN(2) == 0 {
		steps = append(steps, lock(inner), compute(1+draw.IntN(3)), unlock(inner))
	}
	if draw.IntN(2) == 0 {
		steps = append(steps, compute(1+draw.IntN(3)))
	}
	steps = append(steps, unlock(outer), compute(1+draw.IntN(2)))
	if draw.IntN(2) == 0 {
		steps = append(steps, lock(inner), compute(1+draw.IntN(3)), unlock(inner), compute(1))
	}
	return steps
}

func byDeadline(tasks []api.Task) []int {
	numbers := make([]int, len(tasks))
	for i := range numbers {
		numbers[i] = i
	}
	slices.SortStableFunc(numbers, func(a, b int) int {
		return cmp.Compare(tasks[b].Deadline-tasks[b].Jitter, tasks[a].Deadline-tasks[a].Jitter)
	})
	priorities := make([]int, len(tasks))
	for priority, number := range numbers {
		priorities[number] = priority
	}
	return priorities
}

// drawInTime draws tasks and priorities with which Analyze gives no 0.
func drawInTime(draw *rand.Rand) ([]api.Task, []int) {
	for {
		tasks, priorities := drawSet(draw, 4)
		if bounds, _, _ := cadence.Analyze(tasks, priorities); !slices.Contains(bounds, 0) {
			return tasks, priorities
		}
	}
}

func drawDemands(draw *rand.Rand, program []api.Step, full bool) []int {
	var demands []int
	for _, step := range program {
		if step.Kind != api.Compute {
			continue
		}
		if full {
			demands = append(demands, step.N)
		} else {
			demands = append(demands, 1+draw.IntN(step.N))
		}
	}
	return demands
}

// spoil makes arguments of Arrive wrong, mostly.
func spoil(draw *rand.Rand, number, jitter int, demands []int) (int, int, []int) {
	if draw.IntN(4) == 0 {
		number = draw.IntN(24) - 8
	}
	if draw.IntN(3) == 0 {
		jitter = draw.IntN(40) - 10
	}
	if i := draw.IntN(len(demands)); draw.IntN(3) == 0 {
		demands[i] = draw.IntN(8) - 2
	}
	switch draw.IntN(8) {
	case 0:
		demands = demands[1:]
	case 1:
		demands = append(demands, 1)
	}
	return number, jitter, demands
}

// drawArrivals lets jobs arrive: eager ones as soon as they may, with all that
// they may ask for.
func drawArrivals(t *testing.T, draw *rand.Rand, r *run, eager bool, counts map[api.Errno]int) {
	t.Helper()
	for _, number := range draw.Perm(len(r.model.tasks)) {
		if !eager && draw.IntN(4) > 0 {
			continue
		}
		given := r.model.tasks[number]
		jitter := draw.IntN(given.Jitter + 1)
		if eager && draw.IntN(2) == 0 {
			jitter = 0
		}
		demands := drawDemands(draw, given.Program, eager || draw.IntN(2) == 0)
		if draw.IntN(20) == 0 {
			number, jitter, demands = spoil(draw, number, jitter, demands)
		}
		counts[r.arrive(t, number, jitter, demands...)]++
	}
}

// TestDrawnRuns holds kernels against the document's words, tick by tick (P7 to
// P13), with more to do than there is time, and with less.
func TestDrawnRuns(t *testing.T) {
	draw := rand.New(rand.NewPCG(3, 4))
	counts := map[api.Errno]int{}
	blocked := 0
	for i := range 600 {
		tasks, priorities := drawSet(draw, 0)
		if i%2 == 0 {
			tasks, priorities = drawInTime(draw)
		}
		r := newRun(t, tasks, priorities)
		eager := draw.IntN(2) == 0
		for range 150 {
			drawArrivals(t, draw, r, eager, counts)
			r.compare(t)
			r.tick(t)
			r.compare(t)
		}
		blocked += r.model.blocked()
	}
	if blocked < 500 {
		t.Errorf("the runs are too much alike: %d jobs waited for a lower one", blocked)
	}
	for _, e := range []api.Errno{api.OK, api.ErrTask, api.ErrEarly, api.ErrJitter, api.ErrDemand, api.ErrFull} {
		if counts[e] < 50 {
			t.Errorf("the calls are too much alike: the error %d comes %d times", e, counts[e])
		}
	}
}

// TestKernelsBesideOneAnother: each has its own jobs, also where both are of
// the same tasks.
func TestKernelsBesideOneAnother(t *testing.T) {
	draw := rand.New(rand.NewPCG(5, 6))
	counts := map[api.Errno]int{}
	for range 100 {
		tasks, priorities := drawSet(draw, 0)
		others, otherPriorities := drawInTime(draw)
		runs := []*run{newRun(t, tasks, priorities), newRun(t, tasks, priorities), newRun(t, others, otherPriorities)}
		for range 200 {
			r := runs[draw.IntN(len(runs))]
			drawArrivals(t, draw, r, false, counts)
			r.tick(t)
			cadence.Analyze(tasks, priorities)
			for _, each := range runs {
				each.compare(t)
			}
		}
	}
}

// TestBoundsAreReached is P14.
func TestBoundsAreReached(t *testing.T) {
	draw := rand.New(rand.NewPCG(7, 8))
	for range 1000 {
		tasks, priorities := drawUnlocked(draw)
		wantBoundsReached(t, tasks, priorities)
	}
	wantBoundsReached(t, example1(), []int{1, 0})
	wantBoundsReached(t, example1(), []int{0, 1})
	wantBoundsReached(t, set(task(1, 1, 0, compute(1))), []int{0})
	wantBoundsReached(t, set(task(100, 100, 0, compute(84)), task(10000, 10000, 0, repeat(api.MaxSteps, compute(api.MaxCompute))...)), []int{1, 0})
}

// drawUnlocked draws tasks that lock nothing, with bounds.
func drawUnlocked(draw *rand.Rand) ([]api.Task, []int) {
	for {
		tasks, priorities := drawSet(draw, 4)
		for i := range tasks {
			tasks[i].Program = slices.DeleteFunc(tasks[i].Program, func(step api.Step) bool { return step.Kind != api.Compute })
			tasks[i].Period = max(tasks[i].Deadline, tasks[i].Period-draw.IntN(tasks[i].Period))
		}
		if bounds, _, _ := cadence.Analyze(tasks, priorities); !slices.Contains(bounds, 0) {
			return tasks, priorities
		}
	}
}

func wantBoundsReached(t *testing.T, tasks []api.Task, priorities []int) {
	t.Helper()
	bounds, _, _ := cadence.Analyze(tasks, priorities)
	k := newKernel(t, tasks, priorities...)
	greatest := 0
	for _, given := range tasks {
		greatest = max(greatest, given.Jitter)
	}
	took := make([]int, len(tasks))
	for now := 0; slices.Contains(took, 0); now++ {
		for number, given := range tasks {
			since := now - (greatest - given.Jitter)
			if since < 0 || since%given.Period > 0 {
				continue
			}
			jitter := 0
			if since == 0 {
				jitter = given.Jitter
			}
			arrive(t, k, number, jitter, drawDemands(nil, given.Program, true)...)
		}
		if number, done := k.Tick(); done && took[number] == 0 {
			took[number] = now + 1 - (greatest - tasks[number].Jitter)
		}
		if now > 4*api.MaxPeriod {
			t.Fatalf("P14: %v after %d ticks, want %v; tasks %+v, priorities %v", took, now, bounds, tasks, priorities)
		}
	}
	if !slices.Equal(took, bounds) {
		t.Fatalf("P14: %v, want %v; tasks %+v, priorities %v", took, bounds, tasks, priorities)
	}
}
