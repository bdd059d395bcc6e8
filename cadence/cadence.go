// Package cadence: a kernel that keeps its deadlines, and knows ahead that it will: see DOC.md.
package cadence

import (
	"sync"

	"cadence/api"
	"cadence/bounds"
	"cadence/machine"
	"cadence/priority"
	"cadence/taskset"
)

// Kernel runs the jobs of some tasks. It may be asked from several sides.
type Kernel struct {
	mutex   sync.Mutex
	machine *machine.Machine
}

// Check tells whether tasks may be (P3).
func Check(tasks []api.Task) (api.Errno, int) { return taskset.Check(tasks) }

// Analyze reckons bounds (P4).
func Analyze(tasks []api.Task, priorities []int) ([]int, api.Errno, int) {
	if e, place := checkBoth(tasks, priorities); e != api.OK {
		return nil, e, place
	}
	system := bounds.Of(tasks)
	answer := make([]int, len(tasks))
	for task := range answer {
		answer[task] = system.Bound(task, bounds.Above(task, priorities))
	}
	return answer, api.OK, 0
}

func checkBoth(tasks []api.Task, priorities []int) (api.Errno, int) {
	if e, place := taskset.Check(tasks); e != api.OK {
		return e, place
	}
	if !taskset.ArePriorities(priorities, len(tasks)) {
		return api.ErrOrder, 0
	}
	return api.OK, 0
}

// Assign finds priorities (P5).
func Assign(tasks []api.Task) ([]int, api.Errno, int) {
	if e, place := taskset.Check(tasks); e != api.OK {
		return nil, e, place
	}
	priorities := priority.Find(bounds.Of(tasks))
	if priorities == nil {
		return nil, api.ErrNone, 0
	}
	return priorities, api.OK, 0
}

// New makes a kernel (P6).
func New(tasks []api.Task, priorities []int) (*Kernel, api.Errno, int) {
	if e, place := checkBoth(tasks, priorities); e != api.OK {
		return nil, e, place
	}
	return &Kernel{machine: machine.Of(tasks, priorities)}, api.OK, 0
}

// Arrive lets a job arrive (P7).
func (k *Kernel) Arrive(task int, jitter int, demands ...int) api.Errno {
	k.mutex.Lock()
	defer k.mutex.Unlock()
	return k.machine.Arrive(task, jitter, demands)
}

// Tick lets a tick go by (P8).
func (k *Kernel) Tick() (int, bool) {
	k.mutex.Lock()
	defer k.mutex.Unlock()
	return k.machine.Tick()
}

// Holds tells who holds a resource (P9).
func (k *Kernel) Holds(resource int) (int, api.Errno) {
	k.mutex.Lock()
	defer k.mutex.Unlock()
	return k.machine.Holds(resource)
}

// Jobs tells all jobs that are not forgotten (P10).
func (k *Kernel) Jobs() []api.Job {
	k.mutex.Lock()
	defer k.mutex.Unlock()
	return k.machine.Jobs()
}

// Look tells the time (P10).
func (k *Kernel) Look() api.Look {
	k.mutex.Lock()
	defer k.mutex.Unlock()
	return k.machine.Look()
}
