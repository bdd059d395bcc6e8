package cadence_test

import (
	"slices"
	"testing"

	"cadence/api"
	"cadence/cadence"
)

// model is a kernel in the document's words: of each job that ever arrived it
// has just the ticks that it had; all else is worked out from these.
type model struct {
	tasks      []api.Task
	priorities []int
	jobs       []*modelJob // in the order in which they arrived
	ends       []*modelJob // in the order in which they were done
	now, idle  int
}

type modelJob struct {
	task, arrived, released int
	done                    int
	demands                 []int
	ticks                   []int
	ready                   int // the tick from which on it was ready, or -1
	// blockers are the sections to one of which all ticks belong that jobs of
	// lower tasks had since it was ready; anyBlocker: there was no such tick.
	blockers   []section
	anyBlocker bool
}

// section of a job: which step locks the resource, and how many ticks the job
// had ahead of it.
type section struct {
	job                   *modelJob
	step, resource, ahead int
}

func (j *modelJob) isDone() bool { return j.done >= 0 }

func (j *modelJob) left() int {
	sum := 0
	for _, demand := range j.demands {
		sum += demand
	}
	return sum - len(j.ticks)
}

// sections are those in which the job is between two ticks, and those that it
// enters with the next one.
func (m *model) sections(j *modelJob) (in, entered []section) {
	used, ahead, computes := len(j.ticks), 0, 0
	for i, step := range m.tasks[j.task].Program {
		switch step.Kind {
		case api.Lock:
			entered = append(entered, section{j, i, step.N, ahead})
		case api.Unlock:
			in = in[:len(in)-1]
		case api.Compute:
			if used == ahead {
				return in, entered
			}
			in, entered = append(in, entered...), nil
			ahead += j.demands[computes]
			computes++
			if used < ahead {
				return in, nil
			}
		}
	}
	return nil, nil
}

func (m *model) isReady(j *modelJob) bool {
	if j.isDone() || j.released > m.now {
		return false
	}
	for _, other := range m.jobs {
		if other == j {
			return true
		}
		if other.task == j.task && !other.isDone() {
			return false
		}
	}
	return false
}

func (m *model) ceiling(resource int) int {
	return ceilingInWords(m.tasks, m.priorities, resource)
}

func (m *model) activePriority(j *modelJob) int {
	active := m.priorities[j.task]
	in, _ := m.sections(j)
	for _, s := range in {
		active = max(active, m.ceiling(s.resource))
	}
	return active
}

func (m *model) goesAhead(a, b *modelJob) bool {
	if x, y := m.activePriority(a), m.activePriority(b); x != y {
		return x > y
	}
	in, _ := m.sections(a)
	return len(in) > 0
}

func (m *model) arrive(number, jitter int, demands []int) api.Errno {
	if number < 0 || number >= len(m.tasks) {
		return api.ErrTask
	}
	task, waiting := m.tasks[number], 0
	for _, j := range m.jobs {
		if j.task != number {
			continue
		}
		if m.now-j.arrived < task.Period {
			return api.ErrEarly
		}
		if !j.isDone() {
			waiting++
		}
	}
	if jitter < 0 || jitter > task.Jitter {
		return api.ErrJitter
	}
	var greatest []int
	for _, step := range task.Program {
		if step.Kind == api.Compute {
			greatest = append(greatest, step.N)
		}
	}
	if len(demands) != len(greatest) {
		return api.ErrDemand
	}
	for i, demand := range demands {
		if demand < 1 || demand > greatest[i] {
			return api.ErrDemand
		}
	}
	if waiting >= api.MaxJobs {
		return api.ErrFull
	}
	m.jobs = append(m.jobs, &modelJob{
		task: number, arrived: m.now, released: m.now + jitter, done: -1,
		demands: slices.Clone(demands), ready: -1, anyBlocker: true,
	})
	return api.OK
}

// tick lets a tick go by, and looks that P12 and P13 hold.
func (m *model) tick(t *testing.T) (int, bool) {
	t.Helper()
	var chosen *modelJob
	for _, j := range m.jobs {
		if !m.isReady(j) {
			continue
		}
		if j.ready < 0 {
			j.ready = m.now
		}
		if chosen == nil || m.goesAhead(j, chosen) {
			chosen = j
		}
	}
	if chosen == nil {
		m.now++
		m.idle++
		return -1, false
	}
	m.lookAtLocks(t, chosen)
	chosen.ticks = append(chosen.ticks, m.now)
	m.lookAtBlocked(t, chosen)
	m.now++
	if chosen.left() > 0 {
		return chosen.task, false
	}
	chosen.done = m.now
	m.ends = append(m.ends, chosen)
	return chosen.task, true
}

// lookAtLocks: a Lock never finds its resource taken (P12).
func (m *model) lookAtLocks(t *testing.T, j *modelJob) {
	t.Helper()
	_, entered := m.sections(j)
	for _, s := range entered {
		if holder := m.holder(s.resource); holder >= 0 {
			t.Fatalf("P12: at tick %d task %d locks %d, that task %d holds", m.now, j.task, s.resource, holder)
		}
	}
}

// lookAtBlocked holds the tick that the job has just had against P13.
func (m *model) lookAtBlocked(t *testing.T, runs *modelJob) {
	t.Helper()
	for _, j := range m.jobs {
		if !m.isReady(j) || m.priorities[j.task] <= m.priorities[runs.task] {
			continue
		}
		var blockers []section
		for _, s := range m.duringLastTick(runs) {
			if m.ceiling(s.resource) < m.priorities[j.task] || runs.ticks[s.ahead] >= j.ready {
				continue
			}
			if j.anyBlocker || slices.Contains(j.blockers, s) {
				blockers = append(blockers, s)
			}
		}
		j.blockers, j.anyBlocker = blockers, false
		if len(blockers) == 0 {
			t.Fatalf("P13: at tick %d task %d goes ahead of task %d", m.now, runs.task, j.task)
		}
	}
}

// duringLastTick are the sections in which the job was in the last tick that it
// had.
func (m *model) duringLastTick(j *modelJob) []section {
	last := len(j.ticks) - 1
	ticks := j.ticks
	j.ticks = ticks[:last]
	in, entered := m.sections(j)
	j.ticks = ticks
	return append(in, entered...)
}

// blocked is how many jobs waited for one of a lower task.
func (m *model) blocked() int {
	sum := 0
	for _, j := range m.jobs {
		if !j.anyBlocker {
			sum++
		}
	}
	return sum
}

func (m *model) holder(resource int) int {
	for _, j := range m.jobs {
		in, _ := m.sections(j)
		for _, s := range in {
			if s.resource == resource {
				return j.task
			}
		}
	}
	return -1
}

func (m *model) told() []api.Job {
	var told []api.Job
	last := m.ends[max(0, len(m.ends)-api.MaxKept):]
	for _, j := range m.jobs {
		if !j.isDone() || slices.Contains(last, j) {
			told = append(told, api.Job{Task: j.task, Arrived: j.arrived, Released: j.released, Done: j.done, Left: j.left()})
		}
	}
	return told
}

// run is a kernel, and the model of it.
type run struct {
	kernel *cadence.Kernel
	model  *model
	bounds []int
}

func newRun(t *testing.T, tasks []api.Task, priorities []int) *run {
	t.Helper()
	bounds, _, _ := cadence.Analyze(tasks, priorities)
	return &run{newKernel(t, tasks, priorities...), &model{tasks: tasks, priorities: priorities}, bounds}
}

func (r *run) fail(t *testing.T, words string, got, want any) {
	t.Helper()
	t.Fatalf("%s at tick %d: %+v, want %+v; tasks %+v, priorities %v, jobs %+v",
		words, r.model.now, got, want, r.model.tasks, r.model.priorities, r.model.told())
}

func (r *run) arrive(t *testing.T, number, jitter int, demands ...int) api.Errno {
	t.Helper()
	want := r.model.arrive(number, jitter, demands)
	if got := r.kernel.Arrive(number, jitter, demands...); got != want {
		r.fail(t, "Arrive", got, want)
	}
	return want
}

func (r *run) tick(t *testing.T) (int, bool) {
	t.Helper()
	number, done := r.model.tick(t)
	if gotNumber, gotDone := r.kernel.Tick(); gotNumber != number || gotDone != done {
		r.fail(t, "Tick", []any{gotNumber, gotDone}, []any{number, done})
	}
	return number, done
}

// compare holds all that the kernel tells against the model, and against P11.
func (r *run) compare(t *testing.T) {
	t.Helper()
	jobs := r.kernel.Jobs()
	if want := r.model.told(); !slices.Equal(jobs, want) {
		r.fail(t, "Jobs", jobs, want)
	}
	if got, want := r.kernel.Look(), (api.Look{Now: r.model.now, Idle: r.model.idle}); got != want {
		r.fail(t, "Look", got, want)
	}
	for resource := range api.MaxResources {
		if got, _ := r.kernel.Holds(resource); got != r.model.holder(resource) {
			r.fail(t, "Holds", got, r.model.holder(resource))
		}
	}
	if slices.Contains(r.bounds, 0) {
		return
	}
	for _, job := range jobs {
		bound := r.bounds[job.Task]
		if job.Done >= 0 && job.Done-job.Arrived > bound {
			r.fail(t, "P11: done", job, bound)
		}
		if job.Done < 0 && r.model.now-job.Arrived >= bound {
			r.fail(t, "P11: not done", job, bound)
		}
	}
}
