package cadence_test

import (
	"math"
	"reflect"
	"slices"
	"testing"

	"cadence/api"
	"cadence/cadence"
)

// numbers are those that matter to some limit, and the extremes.
func numbers() []int {
	return append([]int{-2, 0, 1, 2, 7, 8, 9, 15, 16, 17, 99, 100, 101, 9999, 10000, 10001, math.MaxInt - 10000, math.MinInt + 10000}, extremes...)
}

func TestExtremeTimes(t *testing.T) {
	for _, period := range numbers() {
		for _, deadline := range numbers() {
			for _, jitter := range numbers() {
				e := api.OK
				if period < 1 || period > 10000 || deadline < 1 || deadline > period || jitter < 0 || jitter > deadline {
					e = api.ErrTimes
				}
				tasks := set(with(compute(1)), task(period, deadline, jitter, compute(1)))
				if e == api.OK {
					wantCheck(t, tasks, e, 0)
					continue
				}
				wantCheck(t, tasks, e, 1)
				wantNoBounds(t, tasks, []int{0, 1}, e, 1)
				wantNoAssign(t, tasks, e, 1)
			}
		}
	}
}

func TestExtremeSteps(t *testing.T) {
	for _, n := range numbers() {
		e := api.OK
		if n < 1 || n > 100 {
			e = api.ErrProgram
		}
		wantCheck(t, set(with(compute(n))), e, 0)

		e = api.OK
		if n < 0 || n > 7 {
			e = api.ErrProgram
		}
		wantCheck(t, set(with(lock(n), compute(1), unlock(n), compute(1))), e, 0)
		wantCheck(t, set(with(unlock(n), compute(1))), api.ErrProgram, 0)

		if n != api.Compute {
			wantCheck(t, set(with(api.Step{Kind: n, N: 1}, compute(1))), api.ErrProgram, 0)
			wantNoBounds(t, set(with(api.Step{Kind: n, N: n}, compute(1))), []int{0}, api.ErrProgram, 0)
			wantNoAssign(t, set(with(api.Step{Kind: n, N: n}, compute(1))), api.ErrProgram, 0)
		}
	}
}

func TestExtremePriorities(t *testing.T) {
	for _, n := range numbers() {
		if n == 0 || n == 1 {
			continue
		}
		for _, priorities := range [][]int{{n, 0}, {0, n}, {1, n}, {n, n}} {
			wantNoBounds(t, example1(), priorities, api.ErrOrder, 0)
		}
	}
}

// TestGreatestSets has the greatest numbers that may be, at once.
func TestGreatestSets(t *testing.T) {
	most := repeat(api.MaxSteps, compute(api.MaxCompute))
	tasks := repeat(api.MaxTasks, task(api.MaxPeriod, api.MaxPeriod, 0, most...))
	wantBounds(t, tasks, []int{7, 6, 5, 4, 3, 2, 1, 0}, 1600, 3200, 4800, 6400, 8000, 9600, 0, 0)
	wantNoAssign(t, tasks, api.ErrNone, 0)
	wantAssign(t, tasks[:6], 5, 4, 3, 2, 1, 0)
	tasks = repeat(api.MaxTasks, task(api.MaxPeriod, api.MaxPeriod, api.MaxPeriod, most...))
	wantBounds(t, tasks, []int{7, 6, 5, 4, 3, 2, 1, 0}, 0, 0, 0, 0, 0, 0, 0, 0)
	wantNoAssign(t, tasks, api.ErrNone, 0)
	// The two that come most often leave no time, and it takes the longest to
	// see that: W grows by one tick at a time.
	tasks = repeat(api.MaxTasks, task(api.MaxPeriod, api.MaxPeriod, 0, compute(1)))
	tasks[0], tasks[1] = task(2, 2, 0, compute(1)), task(2, 2, 0, compute(1))
	wantNoAssign(t, tasks, api.ErrNone, 0)
	wantAssign(t, tasks[1:], 6, 5, 4, 3, 2, 1, 0)
}

// roomy makes a copy of the tasks in which each list has spare room, with
// something in it that must stay.
func roomy(tasks []api.Task) []api.Task {
	all := make([]api.Task, 0, len(tasks)+2)
	for _, task := range tasks {
		program := append(slices.Clone(task.Program), api.Step{Kind: 77, N: 88}, api.Step{Kind: 99, N: 11})
		task.Program = program[:len(task.Program)]
		all = append(all, task)
	}
	spare := append(all, task(1, 2, 3, compute(4)), task(5, 6, 7, compute(8)))
	return spare[:len(tasks)]
}

// whole is what stands in the tasks and behind them.
func whole(tasks []api.Task) []api.Task {
	all := slices.Clone(tasks[:cap(tasks)])
	for i := range all {
		all[i].Program = slices.Clone(all[i].Program[:cap(all[i].Program)])
	}
	return all
}

func equalTasks(a, b []api.Task) bool { return reflect.DeepEqual(a, b) }

func TestArgumentsStay(t *testing.T) {
	order := append(make([]int, 0, 8), 2, 1, 0, 55, 66)
	for _, tasks := range [][]api.Task{example1(), example2(), set(), set(with(), with(lock(0), compute(1))), repeat(9, with(compute(1)))} {
		for _, priorities := range [][]int{order[:0], order[:2], order[:3], order[1:3], order[:5]} {
			handed := roomy(tasks)
			tasksAhead, orderAhead := whole(handed), slices.Clone(order[:cap(order)])
			cadence.Check(handed)
			cadence.Analyze(handed, priorities)
			if !equalTasks(whole(handed), tasksAhead) {
				t.Errorf("tasks %+v became %+v", tasksAhead, whole(handed))
			}
			if !slices.Equal(order[:cap(order)], orderAhead) {
				t.Errorf("priorities %v became %v", orderAhead, order[:cap(order)])
			}
		}
	}
}

func TestAnswersShareNothing(t *testing.T) {
	tasks, priorities := example2(), []int{2, 1, 0}
	first, _, _ := cadence.Analyze(tasks, priorities)
	second, _, _ := cadence.Analyze(tasks, priorities)
	for _, list := range [][]int{first, second} {
		if !slices.Equal(list, []int{8, 17, 16}) {
			t.Fatalf("Analyze = %v", list)
		}
		list = list[:cap(list)]
		for i := range list {
			list[i] = -1
		}
		if !slices.Equal(priorities, []int{2, 1, 0}) || !equalTasks(tasks, example2()) {
			t.Errorf("a bound is an argument's: %v, %+v", priorities, tasks)
		}
	}
	wantBounds(t, tasks, priorities, 8, 17, 16)
}

func TestNothingIsKept(t *testing.T) {
	tasks, priorities := example1(), []int{1, 0}
	bounds, _, _ := cadence.Analyze(tasks, priorities)
	wantCheck(t, tasks, api.OK, 0)
	tasks[0].Program[0].N, tasks[1].Jitter = 5, 0
	priorities[0], priorities[1] = 0, 1
	if !slices.Equal(bounds, []int{3, 9}) {
		t.Errorf("an answer became %v", bounds)
	}
	wantBounds(t, tasks, priorities, 9, 4)
	tasks[1].Program[0].N = 0
	wantCheck(t, tasks, api.ErrProgram, 1)
	wantNoBounds(t, tasks, priorities, api.ErrProgram, 1)
	wantBounds(t, example1(), []int{1, 0}, 3, 9)
}
