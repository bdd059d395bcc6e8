// Package bounds reckons how long the jobs of a task can take at the most,
// whatever comes. It is for tasks that may be only: it doesn't check them.
package bounds

import "cadence/api"

// Set is a set of tasks, by their numbers.
type Set [api.MaxTasks]bool

// Above is the set of the tasks with a higher priority than the task's.
func Above(task int, priorities []int) Set {
	var higher Set
	for other, priority := range priorities {
		higher[other] = priority > priorities[task]
	}
	return higher
}

// System is what the reckoning needs of each task, by their numbers.
type System []profile

type profile struct {
	period, deadline, jitter, demand int
	// longest has for each resource the greatest length of the task's
	// sections of it. No section is without a Compute, so that 0 says that
	// the task doesn't lock the resource.
	longest [api.MaxResources]int
}

// Of makes the system of the tasks.
func Of(tasks []api.Task) System {
	system := make(System, len(tasks))
	for i, task := range tasks {
		system[i] = profileOf(task)
	}
	return system
}

func profileOf(task api.Task) profile {
	p := profile{period: task.Period, deadline: task.Deadline, jitter: task.Jitter}
	// A program locks no resource that it holds, so one beginning for each is
	// enough, for sections within sections too.
	var begun [api.MaxResources]int
	for _, step := range task.Program {
		switch step.Kind {
		case api.Compute:
			p.demand += step.N
		case api.Lock:
			begun[step.N] = p.demand
		case api.Unlock:
			p.longest[step.N] = max(p.longest[step.N], p.demand-begun[step.N])
		}
	}
	return p
}

// Bound is the bound of the task if just the tasks of the set higher are of
// higher priority, and all others of lower; 0, if it may come too late (P4).
func (s System) Bound(task int, higher Set) int {
	own := s[task]
	alone := own.demand + s.blocking(task, higher)
	// No W is below alone, and what the tasks ask for never falls as W grows:
	// going up from alone can't step over the least W. It is given up as soon
	// as W is too late, so it ends where there is no W, too.
	w := alone
	for w+own.jitter <= own.deadline {
		asked := alone + s.interference(w, higher)
		if asked == w {
			return w + own.jitter
		}
		w = asked
	}
	return 0
}

// blocking is the greatest length of a section of a lower task that can keep
// the task waiting.
func (s System) blocking(task int, higher Set) int {
	reach := higher
	reach[task] = true
	greatest := 0
	for other, p := range s {
		if reach[other] {
			continue
		}
		for resource, length := range p.longest {
			if s.locked(resource, reach) {
				greatest = max(greatest, length)
			}
		}
	}
	return greatest
}

// locked tells whether a task of the set locks the resource. With a task and
// all that are higher as the set, that is: whether the resource's ceiling is at
// least the task's priority.
func (s System) locked(resource int, set Set) bool {
	for task, p := range s {
		if set[task] && p.longest[resource] > 0 {
			return true
		}
	}
	return false
}

// interference is how many ticks the higher tasks can ask for within w ticks.
func (s System) interference(w int, higher Set) int {
	sum := 0
	for task, p := range s {
		if higher[task] {
			sum += roundedUp(w+p.jitter, p.period) * p.demand
		}
	}
	return sum
}

func roundedUp(number, divisor int) int {
	return (number + divisor - 1) / divisor
}
