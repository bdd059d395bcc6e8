// Package machine runs the jobs of tasks on one processor, tick by tick. It is
// for tasks and priorities that may be only, and for one caller at a time: it
// doesn't check the ones, and doesn't hold off the others.
package machine

import (
	"cmp"
	"slices"

	"cadence/api"
)

// nobody stands where a task's number would, if there is none.
const nobody = -1

// Machine is what the jobs of some tasks have come to.
type Machine struct {
	now, idle int
	arrived   int // jobs, of all tasks
	tasks     []task
	ceilings  [api.MaxResources]int
	// holders has for each resource the task whose job holds it, or nobody:
	// only the first job of a task that is not done can have begun.
	holders [api.MaxResources]int
	jobs    map[key]*job // that are not done
	kept    []record     // of jobs that are done, the one done last at the end
}

// task is what running needs of a task, and of its jobs together. Their
// numbers go up from 0, and they are done in this order: those that are not
// done are the ones from done to arrived, without this one.
type task struct {
	period, jitter, priority int
	program                  []api.Step
	arrived, done            int
	last                     int // the tick at which the last one arrived
}

// key is how a job is known.
type key struct {
	task, number int
}

// record is what is told of a job, and how many arrived ahead of it.
type record struct {
	api.Job
	order int
}

// job is one that is not done: rest is what it has still to do, its program
// with its own demands as the numbers of the Computes.
type job struct {
	record
	rest []api.Step
}

// Of makes the machine of the tasks with these priorities.
func Of(tasks []api.Task, priorities []int) *Machine {
	m := &Machine{tasks: make([]task, len(tasks)), jobs: map[key]*job{}}
	for i := range m.holders {
		m.holders[i] = nobody
	}
	for i, given := range tasks {
		m.tasks[i] = task{
			period:   given.Period,
			jitter:   given.Jitter,
			priority: priorities[i],
			program:  slices.Clone(given.Program),
		}
		m.raiseCeilings(given.Program, priorities[i])
	}
	return m
}

func (m *Machine) raiseCeilings(program []api.Step, priority int) {
	for _, step := range program {
		if step.Kind == api.Lock {
			m.ceilings[step.N] = max(m.ceilings[step.N], priority)
		}
	}
}

// Arrive lets a job arrive at the tick that comes next (P7).
func (m *Machine) Arrive(number int, jitter int, demands []int) api.Errno {
	if number < 0 || number >= len(m.tasks) {
		return api.ErrTask
	}
	t := &m.tasks[number]
	if e := t.refusal(m.now, jitter, demands); e != api.OK {
		return e
	}
	m.jobs[key{number, t.arrived}] = m.newJob(number, jitter, demands)
	t.arrived++
	t.last = m.now
	m.arrived++
	return api.OK
}

// refusal tells why a job of the task can't arrive now.
func (t *task) refusal(now int, jitter int, demands []int) api.Errno {
	switch {
	case t.arrived > 0 && now-t.last < t.period:
		return api.ErrEarly
	case jitter < 0 || jitter > t.jitter:
		return api.ErrJitter
	case !t.demandsMayBe(demands):
		return api.ErrDemand
	case t.arrived-t.done >= api.MaxJobs:
		return api.ErrFull
	}
	return api.OK
}

func (t *task) demandsMayBe(demands []int) bool {
	computes := 0
	for _, step := range t.program {
		if step.Kind != api.Compute {
			continue
		}
		if computes >= len(demands) || demands[computes] < 1 || demands[computes] > step.N {
			return false
		}
		computes++
	}
	return computes == len(demands)
}

func (m *Machine) newJob(number int, jitter int, demands []int) *job {
	rest := slices.Clone(m.tasks[number].program)
	left, computes := 0, 0
	for i := range rest {
		if rest[i].Kind == api.Compute {
			rest[i].N = demands[computes]
			left += demands[computes]
			computes++
		}
	}
	told := api.Job{Task: number, Arrived: m.now, Released: m.now + jitter, Done: -1, Left: left}
	return &job{record{told, m.arrived}, rest}
}

// Tick lets one tick go by, and tells which task had it, and whether its job is
// done with it (P8).
func (m *Machine) Tick() (int, bool) {
	number := m.chosen()
	m.now++
	if number == nobody {
		m.idle++
		return nobody, false
	}
	j := m.first(number)
	m.run(j)
	if len(j.rest) > 0 {
		return number, false
	}
	m.finish(j)
	return number, true
}

// chosen is the task whose job has the tick that comes next, or nobody.
func (m *Machine) chosen() int {
	best, highest := nobody, -1
	for number := range m.tasks {
		if !m.isReady(number) {
			continue
		}
		if rank := m.rank(number); rank > highest {
			best, highest = number, rank
		}
	}
	return best
}

// first is the first job of the task that is not done, or nil: no other one of
// the task can be ready.
func (m *Machine) first(number int) *job {
	return m.jobs[key{number, m.tasks[number].done}]
}

func (m *Machine) isReady(number int) bool {
	j := m.first(number)
	return j != nil && j.Released <= m.now
}

// rank orders the ready jobs: twice the active priority, and one more for a job
// that holds a resource, since it goes ahead of one with the same priority.
func (m *Machine) rank(number int) int {
	active, holding := m.tasks[number].priority, 0
	for resource, holder := range m.holders {
		if holder == number {
			active, holding = max(active, m.ceilings[resource]), 1
		}
	}
	return 2*active + holding
}

// run lets the job use one tick. Between ticks a job stands at a Lock or at a
// Compute, and behind Locks there is always a Compute.
func (m *Machine) run(j *job) {
	for j.rest[0].Kind == api.Lock {
		m.holders[j.next().N] = j.Task
	}
	j.Left--
	j.rest[0].N--
	if j.rest[0].N > 0 {
		return
	}
	j.next()
	for len(j.rest) > 0 && j.rest[0].Kind == api.Unlock {
		m.holders[j.next().N] = nobody
	}
}

// next takes the step at which the job stands from its rest.
func (j *job) next() api.Step {
	step := j.rest[0]
	j.rest = j.rest[1:]
	return step
}

// finish has done with the job, and forgets the one that was done longest ago,
// if there are too many.
func (m *Machine) finish(j *job) {
	t := &m.tasks[j.Task]
	delete(m.jobs, key{j.Task, t.done})
	t.done++
	j.Done = m.now
	if len(m.kept) == api.MaxKept {
		m.kept = slices.Delete(m.kept, 0, 1)
	}
	m.kept = append(m.kept, j.record)
}

// Holds tells the task whose job holds the resource, or -1 (P9).
func (m *Machine) Holds(resource int) (int, api.Errno) {
	if resource < 0 || resource >= api.MaxResources {
		return 0, api.ErrTask
	}
	return m.holders[resource], api.OK
}

// Jobs tells all jobs that are not forgotten, in the order in which they
// arrived (P10).
func (m *Machine) Jobs() []api.Job {
	records := slices.Clone(m.kept)
	for _, j := range m.jobs {
		records = append(records, j.record)
	}
	slices.SortFunc(records, func(a, b record) int { return cmp.Compare(a.order, b.order) })
	told := make([]api.Job, len(records))
	for i := range records {
		told[i] = records[i].Job
	}
	return told
}

// Look tells the tick that comes next, and how many had no job (P10).
func (m *Machine) Look() api.Look {
	return api.Look{Now: m.now, Idle: m.idle}
}
