package cadence_test

import (
	"math/rand/v2"
	"testing"

	"cadence/api"
)

func example1() []api.Task {
	return set(task(10, 10, 0, compute(3)), task(20, 18, 2, compute(4)))
}

func example2() []api.Task {
	return set(
		task(10, 10, 0, lock(0), compute(1), unlock(0), compute(2)),
		task(20, 18, 2, compute(4)),
		task(50, 50, 0, lock(0), compute(5), unlock(0), compute(1)),
	)
}

func TestAnalyzeExamples(t *testing.T) {
	wantBounds(t, example1(), []int{1, 0}, 3, 9)
	wantBounds(t, example1(), []int{0, 1}, 7, 6)
	wantBounds(t, example2(), []int{2, 1, 0}, 8, 17, 16)
}

func TestAnalyzeDeadline(t *testing.T) {
	wantBounds(t, set(task(10, 10, 0, compute(10))), []int{0}, 10)
	wantBounds(t, set(task(10, 9, 0, compute(10))), []int{0}, 0)
	wantBounds(t, set(task(1, 1, 0, compute(1))), []int{0}, 1)
	wantBounds(t, set(task(1, 1, 0, compute(2))), []int{0}, 0)

	high := task(100, 100, 0, compute(84))
	most := repeat(api.MaxSteps, compute(api.MaxCompute))
	wantBounds(t, set(high, task(10000, 10000, 0, most...)), []int{1, 0}, 84, 10000)
	wantBounds(t, set(high, task(10000, 9999, 0, most...)), []int{1, 0}, 84, 0)
	wantBounds(t, set(high, task(10000, 10000, 1, most...)), []int{1, 0}, 84, 0)

	// One that is too late goes on weighing on those below.
	wantBounds(t, set(task(20, 4, 0, compute(5)), task(20, 20, 0, compute(2))), []int{1, 0}, 0, 7)
}

func TestAnalyzeWithoutW(t *testing.T) {
	wantBounds(t, set(task(1, 1, 0, compute(1)), task(10000, 10000, 0, compute(1))), []int{1, 0}, 1, 0)
	wantBounds(t, set(task(2, 2, 0, compute(1)), task(4, 4, 0, compute(2)), task(10000, 10000, 0, compute(1))), []int{2, 1, 0}, 1, 4, 0)

	crowd := repeat(api.MaxTasks, task(1, 1, 1, repeat(api.MaxSteps, compute(api.MaxCompute))...))
	crowd[0] = task(10000, 10000, 0, compute(1))
	wantBounds(t, crowd, []int{0, 1, 2, 3, 4, 5, 6, 7}, repeat(api.MaxTasks, 0)...)
}

func TestAnalyzeRoundsUp(t *testing.T) {
	high := task(4, 4, 0, compute(2))
	wantBounds(t, set(high, task(20, 20, 0, compute(2))), []int{1, 0}, 2, 4)
	wantBounds(t, set(high, task(20, 20, 0, compute(3))), []int{1, 0}, 2, 7)
	wantBounds(t, set(high, task(20, 20, 0, compute(4))), []int{1, 0}, 2, 8)
	// 5 and 8 both solve the equation of the lower one: the least one counts.
	wantBounds(t, set(task(5, 5, 0, compute(3)), task(20, 20, 0, compute(2))), []int{1, 0}, 3, 5)
	wantBounds(t, set(task(5, 5, 0, compute(3)), task(20, 20, 0, compute(3))), []int{1, 0}, 3, 9)
}

func TestAnalyzeJitter(t *testing.T) {
	// The task's own is a part of its bound.
	wantBounds(t, set(task(10, 10, 4, compute(6))), []int{0}, 10)
	wantBounds(t, set(task(10, 10, 5, compute(6))), []int{0}, 0)
	wantBounds(t, set(task(10, 10, 10, compute(1))), []int{0}, 0)
	// That of a higher one makes its jobs come closer, just where W and it go
	// past a Period.
	low := task(50, 50, 0, compute(4))
	wantBounds(t, set(task(10, 10, 0, compute(3)), low), []int{1, 0}, 3, 7)
	wantBounds(t, set(task(10, 10, 3, compute(3)), low), []int{1, 0}, 6, 7)
	wantBounds(t, set(task(10, 10, 4, compute(3)), low), []int{1, 0}, 7, 10)
	// That of a lower one has no part.
	wantBounds(t, set(task(10, 10, 0, compute(3)), task(50, 50, 40, compute(4))), []int{1, 0}, 3, 47)
	// The own one doesn't lengthen the time in which higher ones may come.
	wantBounds(t, set(task(10, 10, 0, compute(3)), task(50, 50, 10, compute(7))), []int{1, 0}, 3, 20)
}

func TestAnalyzeSections(t *testing.T) {
	high := task(100, 100, 0, lock(0), compute(1), unlock(0), compute(1))
	plain := task(100, 100, 0, compute(3))

	// A section's length has the sections within it; the inner one counts alone
	// where the outer one's ceiling is too low.
	outer := task(100, 100, 0, lock(0), compute(2), lock(1), compute(5), unlock(1), compute(3), unlock(0), compute(9))
	inner := task(100, 100, 0, lock(1), compute(2), lock(0), compute(5), unlock(0), compute(3), unlock(1), compute(9))
	wantBounds(t, set(high, plain, outer), []int{2, 1, 0}, 2+10, 3+10+2, 19+2+3)
	wantBounds(t, set(high, plain, inner), []int{2, 1, 0}, 2+5, 3+5+2, 19+2+3)

	// Lock behind Lock: both sections are of one length.
	twin := task(100, 100, 0, lock(1), lock(0), compute(6), unlock(0), unlock(1), compute(1))
	wantBounds(t, set(high, twin), []int{1, 0}, 2+6, 7+2)

	// Of several sections the greatest one counts, not the sum, not the last.
	several := task(100, 100, 0, lock(0), compute(2), unlock(0), lock(0), compute(7), unlock(0), lock(0), compute(4), unlock(0), compute(1))
	shorter := task(100, 100, 0, lock(0), compute(5), unlock(0), compute(1))
	wantBounds(t, set(high, several), []int{1, 0}, 2+7, 14+2)
	wantBounds(t, set(high, several, shorter), []int{2, 1, 0}, 2+7, 14+5+2, 6+2+14)
	wantBounds(t, set(high, several, shorter), []int{2, 0, 1}, 2+7, 14+2+6, 6+7+2)

	// Several Computes in a section are added up.
	added := task(100, 100, 0, lock(0), compute(2), compute(3), compute(4), unlock(0), compute(1))
	wantBounds(t, set(high, added), []int{1, 0}, 2+9, 10+2)
}

func TestAnalyzeCeilings(t *testing.T) {
	long := task(100, 100, 0, lock(7), compute(8), unlock(7), compute(1))
	plain := task(100, 100, 0, compute(3))
	locks := task(100, 100, 0, lock(7), compute(1), unlock(7), compute(1))

	// Just the lowest one locks it: the ceiling is too low for all others.
	wantBounds(t, set(plain, plain, long), []int{2, 1, 0}, 3, 6, 9+6)
	// The ceiling is the middle one's priority: enough for itself, too low above.
	wantBounds(t, set(plain, locks, long), []int{2, 1, 0}, 3, 2+8+3, 9+5)
	// The ceiling is above the middle one, who locks nothing, and waits too.
	wantBounds(t, set(locks, plain, long), []int{2, 1, 0}, 2+8, 3+8+2, 9+5)
	// The sections of the task itself and of higher ones don't block it.
	wantBounds(t, set(long, locks), []int{1, 0}, 9+1, 2+9)
	wantBounds(t, set(long, plain), []int{1, 0}, 9, 3+9)
	// Another resource.
	wantBounds(t, set(task(100, 100, 0, lock(6), compute(1), unlock(6), compute(1)), long), []int{1, 0}, 2, 9+2)
	// Blocked just up to the Deadline, and one past it.
	wantBounds(t, set(task(100, 10, 0, lock(7), compute(1), unlock(7), compute(1)), long), []int{1, 0}, 10, 11)
	wantBounds(t, set(task(100, 9, 0, lock(7), compute(1), unlock(7), compute(1)), long), []int{1, 0}, 0, 11)
}

func TestAnalyzePriorities(t *testing.T) {
	for _, priorities := range [][]int{
		nil, {}, {0}, {1}, {0, 1, 2}, {1, 0, 0}, {0, 0}, {1, 1}, {1, 2}, {0, 2}, {2, 0}, {-1, 0}, {0, -1}, {1, -1}, {0, 1 << 40}, {0, api.MaxTasks},
		repeat(1000, 0),
	} {
		wantNoBounds(t, example1(), priorities, api.ErrOrder, 0)
	}
	eight := repeat(api.MaxTasks, task(100, 100, 0, compute(1)))
	wantBounds(t, eight, []int{3, 1, 4, 0, 5, 7, 2, 6}, 5, 7, 4, 8, 3, 1, 6, 2)
	wantNoBounds(t, eight, []int{3, 1, 4, 0, 5, 8, 2, 6}, api.ErrOrder, 0)
	wantNoBounds(t, eight, []int{3, 1, 4, 0, 5, 7, 2, 5}, api.ErrOrder, 0)
	wantNoBounds(t, eight, []int{3, 1, 4, 0, 5, 7, 2, 6, 8}, api.ErrOrder, 0)
	wantNoBounds(t, eight[:1], []int{1}, api.ErrOrder, 0)
}

func TestAnalyzeTellsCheckFirst(t *testing.T) {
	good, times, program := with(compute(1)), task(0, 1, 0, compute(1)), with()
	for _, priorities := range [][]int{nil, {0}, {0, 1}, {1, 1}, {-1, 5}, {0, 1, 2}} {
		wantNoBounds(t, nil, priorities, api.ErrMany, 0)
		wantNoBounds(t, set(), priorities, api.ErrMany, 0)
		wantNoBounds(t, repeat(api.MaxTasks+1, good), priorities, api.ErrMany, 0)
		wantNoBounds(t, set(good, times), priorities, api.ErrTimes, 1)
		wantNoBounds(t, set(good, program), priorities, api.ErrProgram, 1)
		wantNoBounds(t, set(program, times), priorities, api.ErrProgram, 0)
	}
	wantNoBounds(t, repeat(api.MaxTasks+1, good), []int{0, 1, 2, 3, 4, 5, 6, 7, 8}, api.ErrMany, 0)
}

// TestAnalyzeAgainstWords holds Analyze against the document's words, taken one
// by one, at sets that are drawn always the same.
func TestAnalyzeAgainstWords(t *testing.T) {
	draw := rand.New(rand.NewPCG(1, 2))
	inTime, late := 0, 0
	for range 5000 {
		tasks := make([]api.Task, 1+draw.IntN(api.MaxTasks))
		for i := range tasks {
			tasks[i] = drawTask(draw)
		}
		priorities := draw.Perm(len(tasks))
		bounds := make([]int, len(tasks))
		for i := range tasks {
			bounds[i] = boundInWords(tasks, priorities, i)
			if bounds[i] > 0 {
				inTime++
			} else {
				late++
			}
		}
		wantBounds(t, tasks, priorities, bounds...)
	}
	if inTime < 5000 || late < 5000 {
		t.Errorf("the sets are too much alike: %d in time, %d late", inTime, late)
	}
}

func drawTask(draw *rand.Rand) api.Task {
	period := 1 + draw.IntN(200)
	deadline := 1 + draw.IntN(period)
	if draw.IntN(2) == 0 {
		deadline = period
	}
	jitter := draw.IntN(deadline + 1)
	if draw.IntN(3) > 0 {
		jitter /= 10
	}
	program := drawSteps(draw, nil, 3)
	return task(period, deadline, jitter, append(program, compute(1+draw.IntN(4)))...)
}

func drawSteps(draw *rand.Rand, held []int, pieces int) []api.Step {
	var steps []api.Step
	for range draw.IntN(pieces + 1) {
		r := draw.IntN(4)
		taken := false
		for _, h := range held {
			taken = taken || h == r
		}
		if taken || len(held) == 2 || draw.IntN(3) == 0 {
			steps = append(steps, compute(1+draw.IntN(4)))
			continue
		}
		inner := drawSteps(draw, append(held[:len(held):len(held)], r), 1)
		if len(inner) == 0 {
			inner = []api.Step{compute(1 + draw.IntN(4))}
		}
		steps = append(append(append(steps, lock(r)), inner...), unlock(r))
	}
	return steps
}

func sumOfComputes(steps []api.Step) int {
	sum := 0
	for _, step := range steps {
		if step.Kind == api.Compute {
			sum += step.N
		}
	}
	return sum
}

func ceilingInWords(tasks []api.Task, priorities []int, resource int) int {
	ceiling := -1
	for i, task := range tasks {
		for _, step := range task.Program {
			if step == lock(resource) {
				ceiling = max(ceiling, priorities[i])
			}
		}
	}
	return ceiling
}

func blockingInWords(tasks []api.Task, priorities []int, i int) int {
	greatest := 0
	for j, task := range tasks {
		if priorities[j] >= priorities[i] {
			continue
		}
		for from, step := range task.Program {
			if step.Kind != api.Lock || ceilingInWords(tasks, priorities, step.N) < priorities[i] {
				continue
			}
			to := from
			for task.Program[to] != unlock(step.N) {
				to++
			}
			greatest = max(greatest, sumOfComputes(task.Program[from:to+1]))
		}
	}
	return greatest
}

func boundInWords(tasks []api.Task, priorities []int, i int) int {
	own := tasks[i]
	b := blockingInWords(tasks, priorities, i)
	for w := 1; w+own.Jitter <= own.Deadline; w++ {
		sum := sumOfComputes(own.Program) + b
		for j, task := range tasks {
			if priorities[j] <= priorities[i] {
				continue
			}
			jobs := (w + task.Jitter) / task.Period
			if (w+task.Jitter)%task.Period > 0 {
				jobs++
			}
			sum += jobs * sumOfComputes(task.Program)
		}
		if sum == w {
			return w + own.Jitter
		}
	}
	return 0
}
