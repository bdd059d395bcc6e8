package cadence_test

import (
	"testing"

	"cadence/api"
	"cadence/cadence"
)

func TestNewErrors(t *testing.T) {
	good, times, program := with(compute(1)), task(0, 1, 0, compute(1)), with()
	for _, priorities := range [][]int{nil, {0}, {0, 1}, {1, 1}, {-1, 5}, {0, 1, 2}} {
		wantNoKernel(t, nil, priorities, api.ErrMany, 0)
		wantNoKernel(t, repeat(api.MaxTasks+1, good), priorities, api.ErrMany, 0)
		wantNoKernel(t, set(times, program), priorities, api.ErrTimes, 0)
		wantNoKernel(t, set(good, times, program), priorities, api.ErrTimes, 1)
		wantNoKernel(t, set(good, good, program, times), priorities, api.ErrProgram, 2)
		wantNoKernel(t, append(repeat(api.MaxTasks-1, good), program), priorities, api.ErrProgram, 7)
	}
	for _, priorities := range [][]int{nil, {}, {0}, {0, 1, 2}, {0, 0}, {1, 1}, {1, 2}, {0, -1}, {0, 1 << 62}} {
		wantNoKernel(t, example1(), priorities, api.ErrOrder, 0)
	}
	for _, n := range extremes {
		wantNoKernel(t, set(good, task(n, 1, 0, compute(1))), []int{0, 1}, api.ErrTimes, 1)
		wantNoKernel(t, set(good, with(lock(n), compute(1), unlock(n), compute(1))), []int{0, 1}, api.ErrProgram, 1)
		wantNoKernel(t, set(good, good), []int{0, n}, api.ErrOrder, 0)
	}
}

func TestNewKernel(t *testing.T) {
	for _, tasks := range [][]api.Task{
		set(with(compute(1))),
		repeat(api.MaxTasks, with(lock(7), compute(api.MaxCompute), unlock(7), compute(1))),
	} {
		k := newKernel(t, tasks, []int{0, 1, 2, 3, 4, 5, 6, 7}[:len(tasks)]...)
		wantLook(t, k, 0, 0)
		wantJobs(t, k)
		wantHolds(t, k)
		wantTicks(t, k, "...")
		wantLook(t, k, 3, 3)
	}
}

func TestNewWithoutBound(t *testing.T) {
	tasks := set(task(2, 1, 0, compute(2)), task(9, 9, 9, compute(1)))
	wantBounds(t, tasks, []int{1, 0}, 0, 0)
	k := newKernel(t, tasks, 1, 0)
	arrive(t, k, 1, 0, 1)
	arrive(t, k, 0, 0, 2)
	wantTicks(t, k, "aAB.")
}

func TestNewKeepsNothing(t *testing.T) {
	tasks, priorities := roomy(example2()), append(make([]int, 0, 5), 2, 1, 0)
	k := newKernel(t, tasks, priorities...)
	for i := range tasks {
		program := tasks[i].Program[:cap(tasks[i].Program)]
		for step := range program {
			program[step] = lock(3)
		}
		tasks[i] = task(1, 1, 1, compute(9))
	}
	priorities[0], priorities[1], priorities[2] = 0, 2, 1
	arrive(t, k, 2, 0, 5, 1)
	wantTicks(t, k, "c")
	wantHolds(t, k, 2)
	wantArrive(t, k, api.ErrJitter, 0, 1, 1, 2)
	wantArrive(t, k, api.ErrDemand, 0, 0, 9)
	arrive(t, k, 0, 0, 1, 2)
	arrive(t, k, 1, 2, 4)
	wantTicks(t, k, "ccccaaAbbbBC")
	wantArrive(t, k, api.ErrEarly, 1, 2, 4)
}

// TestKernelArgumentsStay looks behind what is handed in, too.
func TestKernelArgumentsStay(t *testing.T) {
	tasks, priorities := roomy(example2()), []int{2, 1, 0, 77, 88}
	demands := []int{1, 2, 55, 66}
	tasksAhead := whole(tasks)
	k, _, _ := cadence.New(tasks, priorities[:3])
	arrive(t, k, 0, 0, demands[:2]...)
	wantArrive(t, k, api.ErrEarly, 0, 0, demands[:2]...)
	wantArrive(t, k, api.ErrDemand, 2, 0, demands[1:3]...)
	wantTicks(t, k, "aaA.")
	if after := whole(tasks); !equalTasks(after, tasksAhead) {
		t.Errorf("tasks %+v became %+v", tasksAhead, after)
	}
	if [5]int(priorities) != [5]int{2, 1, 0, 77, 88} || [4]int(demands) != [4]int{1, 2, 55, 66} {
		t.Errorf("priorities, demands became %v, %v", priorities, demands)
	}
}

func TestDemandsAreNotKept(t *testing.T) {
	k := newKernel(t, set(task(10, 10, 0, compute(5), compute(5))), 0)
	demands := []int{2, 1, 9}
	arrive(t, k, 0, 0, demands[:2]...)
	demands[0], demands[1] = 5, 5
	wantTicks(t, k, "aaA.")
	if demands[2] != 9 {
		t.Errorf("behind the demands stands %d", demands[2])
	}
}
