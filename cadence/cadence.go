// Package cadence: a kernel that keeps its deadlines, and knows ahead that it will: see DOC.md.
package cadence

import (
	"cadence/api"
	"cadence/bounds"
	"cadence/taskset"
)

// Kernel runs the jobs of some tasks.
type Kernel struct{}

// Check tells whether tasks may be (P3).
func Check(tasks []api.Task) (api.Errno, int) { return taskset.Check(tasks) }

// Analyze reckons bounds (P4).
func Analyze(tasks []api.Task, priorities []int) ([]int, api.Errno, int) {
	if e, place := taskset.Check(tasks); e != api.OK {
		return nil, e, place
	}
	if !taskset.ArePriorities(priorities, len(tasks)) {
		return nil, api.ErrOrder, 0
	}
	system := bounds.Of(tasks)
	answer := make([]int, len(tasks))
	for task := range answer {
		answer[task] = system.Bound(task, bounds.Above(task, priorities))
	}
	return answer, api.OK, 0
}

// Assign finds priorities (P5).
func Assign(tasks []api.Task) ([]int, api.Errno, int) { return nil, api.OK, 0 }

// New makes a kernel (P6).
func New(tasks []api.Task, priorities []int) (*Kernel, api.Errno, int) { return nil, api.OK, 0 }

// Arrive lets a job arrive (P7).
func (k *Kernel) Arrive(task int, jitter int, demands ...int) api.Errno { return api.OK }

// Tick lets a tick go by (P8).
func (k *Kernel) Tick() (int, bool) { return 0, false }

// Holds tells who holds a resource (P9).
func (k *Kernel) Holds(resource int) (int, api.Errno) { return 0, api.OK }

// Jobs tells all jobs that are not forgotten (P10).
func (k *Kernel) Jobs() []api.Job { return nil }

// Look tells the time (P10).
func (k *Kernel) Look() api.Look { return api.Look{} }
