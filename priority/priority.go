// Package priority finds priorities with which no task comes too late. It is
// for tasks that may be only: it doesn't check them.
package priority

import "cadence/bounds"

const nobody = -1

// search is the finding of priorities, from the lowest one upward. It goes by
// the set of the tasks that have none yet: what is possible with them doesn't
// hang on the order of those that have one already, as all of these are lower.
type search struct {
	system bounds.System
	// lowest has, for each set that was tried, the task that gets the lowest
	// priority of the set, or nobody, if its tasks can't all be in time. Many
	// orders of the tasks below lead to one set: it is tried once.
	lowest map[bounds.Set]int
}

// Find gives each task its priority (P5); nil, if there are no priorities with
// which all have bounds.
func Find(system bounds.System) []int {
	s := search{system: system, lowest: map[bounds.Set]int{}}
	var open bounds.Set
	for task := range system {
		open[task] = true
	}
	if !s.possible(open) {
		return nil
	}
	priorities := make([]int, len(system))
	for priority := range priorities {
		task := s.lowest[open]
		priorities[task] = priority
		open = without(open, task)
	}
	return priorities
}

// possible tells whether the tasks of the set open can all be in time, when all
// others are lower.
func (s *search) possible(open bounds.Set) bool {
	if open == (bounds.Set{}) {
		return true
	}
	task, tried := s.lowest[open]
	if !tried {
		task = s.choose(open)
		s.lowest[open] = task
	}
	return task != nobody
}

// choose is the task that gets the lowest priority of the set open: the one with
// the greatest number of those that get a bound with it and leave the others
// their bounds. A task that moves up waits for a section of the one it passes
// instead of a whole job at the most, so that the first one that gets a bound
// never spoils it for the others; but the answer doesn't lean on that.
func (s *search) choose(open bounds.Set) int {
	for task := len(s.system) - 1; task >= 0; task-- {
		higher := without(open, task)
		if open[task] && s.system.Bound(task, higher) > 0 && s.possible(higher) {
			return task
		}
	}
	return nobody
}

func without(set bounds.Set, task int) bounds.Set {
	set[task] = false
	return set
}
