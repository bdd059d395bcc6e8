// Package taskset tells which tasks, programs and priorities may be.
package taskset

import (
	"slices"

	"cadence/api"
)

// Check tells the first task that can't be, and why (P3).
func Check(tasks []api.Task) (api.Errno, int) {
	if len(tasks) == 0 || len(tasks) > api.MaxTasks {
		return api.ErrMany, 0
	}
	for i, task := range tasks {
		if e := checkTask(task); e != api.OK {
			return e, i
		}
	}
	return api.OK, 0
}

func checkTask(task api.Task) api.Errno {
	if !timesMayBe(task) {
		return api.ErrTimes
	}
	if !programMayBe(task.Program) {
		return api.ErrProgram
	}
	return api.OK
}

func timesMayBe(task api.Task) bool {
	return within(task.Period, 1, api.MaxPeriod) &&
		within(task.Deadline, 1, task.Period) &&
		within(task.Jitter, 0, task.Deadline)
}

func programMayBe(program []api.Step) bool {
	if !within(len(program), 1, api.MaxSteps) {
		return false
	}
	// The resources that are held, the one locked last at the end.
	held := make([]int, 0, api.MaxResources)
	behindLock := false
	for _, step := range program {
		switch step.Kind {
		case api.Compute:
			if !within(step.N, 1, api.MaxCompute) {
				return false
			}
		case api.Lock:
			if !within(step.N, 0, api.MaxResources-1) || slices.Contains(held, step.N) {
				return false
			}
			held = append(held, step.N)
		case api.Unlock:
			last := len(held) - 1
			if behindLock || last < 0 || held[last] != step.N {
				return false
			}
			held = held[:last]
		default:
			return false
		}
		behindLock = step.Kind == api.Lock
	}
	return len(held) == 0 && program[len(program)-1].Kind == api.Compute
}

// ArePriorities tells whether the numbers are priorities of so many tasks,
// of at most MaxTasks.
func ArePriorities(numbers []int, tasks int) bool {
	if len(numbers) != tasks {
		return false
	}
	var taken [api.MaxTasks]bool
	for _, number := range numbers {
		if !within(number, 0, tasks-1) || taken[number] {
			return false
		}
		taken[number] = true
	}
	return true
}

func within(number, least, greatest int) bool {
	return least <= number && number <= greatest
}
