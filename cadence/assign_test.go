package cadence_test

import (
	"math/rand/v2"
	"slices"
	"sync"
	"testing"

	"cadence/api"
	"cadence/cadence"
)

func TestAssignExample6(t *testing.T) {
	wantAssign(t, example1(), 1, 0)
	one := example1()
	wantAssign(t, set(one[1], one[0]), 1, 0)
	wantAssign(t, example2(), 2, 1, 0)
}

func TestAssignTellsCheck(t *testing.T) {
	good, times, program, both := with(compute(1)), task(0, 1, 0, compute(1)), with(), task(5, 6, 0)
	late := task(10, 1, 0, compute(2))
	wantNoAssign(t, nil, api.ErrMany, 0)
	wantNoAssign(t, set(), api.ErrMany, 0)
	wantNoAssign(t, repeat(api.MaxTasks+1, good), api.ErrMany, 0)
	wantNoAssign(t, repeat(api.MaxTasks+1, late), api.ErrMany, 0)
	wantNoAssign(t, repeat(1000, api.Task{}), api.ErrMany, 0)
	wantNoAssign(t, set(api.Task{}), api.ErrTimes, 0)
	wantNoAssign(t, set(both), api.ErrTimes, 0)
	wantNoAssign(t, set(program, times), api.ErrProgram, 0)
	wantNoAssign(t, set(good, times, program), api.ErrTimes, 1)
	// That there are no priorities comes behind.
	wantNoAssign(t, set(late, program), api.ErrProgram, 1)
	wantNoAssign(t, set(late, late, times), api.ErrTimes, 2)
	for at := range api.MaxTasks {
		tasks := repeat(api.MaxTasks, good)
		tasks[at] = times
		wantNoAssign(t, tasks, api.ErrTimes, at)
		tasks[at] = program
		wantNoAssign(t, tasks, api.ErrProgram, at)
	}
}

func TestAssignOneTask(t *testing.T) {
	wantAssign(t, set(task(1, 1, 0, compute(1))), 0)
	wantNoAssign(t, set(task(1, 1, 0, compute(2))), api.ErrNone, 0)
	wantAssign(t, set(task(10, 9, 0, compute(9))), 0)
	wantNoAssign(t, set(task(10, 9, 0, compute(10))), api.ErrNone, 0)
	wantAssign(t, set(task(10, 9, 4, compute(5))), 0)
	wantNoAssign(t, set(task(10, 9, 5, compute(5))), api.ErrNone, 0)
	wantNoAssign(t, set(task(10, 10, 10, compute(1))), api.ErrNone, 0)
	// Its own sections don't block it.
	wantAssign(t, set(task(10, 9, 0, lock(0), compute(8), unlock(0), compute(1))), 0)
	most := repeat(api.MaxSteps, compute(api.MaxCompute))
	wantAssign(t, set(task(1600, 1600, 0, most...)), 0)
	wantNoAssign(t, set(task(1600, 1599, 0, most...)), api.ErrNone, 0)
}

func TestAssignEightTasks(t *testing.T) {
	wantAssign(t, repeat(api.MaxTasks, task(100, 100, 0, compute(1))), 7, 6, 5, 4, 3, 2, 1, 0)
	wantAssign(t, repeat(api.MaxTasks, task(8, 8, 0, compute(1))), 7, 6, 5, 4, 3, 2, 1, 0)
	wantNoAssign(t, repeat(api.MaxTasks, task(8, 7, 0, compute(1))), api.ErrNone, 0)
	wantNoAssign(t, repeat(api.MaxTasks, task(7, 7, 0, compute(1))), api.ErrNone, 0)

	// Each has just the time for its place: there is one order.
	places := []int{3, 1, 4, 0, 5, 7, 2, 6}
	var tasks []api.Task
	for _, priority := range places {
		tasks = append(tasks, task(100, 8-priority, 0, compute(1)))
	}
	wantAssign(t, tasks, places...)
	for i := range tasks {
		if tasks[i].Deadline > 1 {
			tight := slices.Clone(tasks)
			tight[i].Deadline--
			wantNoAssign(t, tight, api.ErrNone, 0)
		}
	}

	// One is too late wherever it stands; all others have time.
	for at := range api.MaxTasks {
		tasks := repeat(api.MaxTasks, task(10000, 10000, 0, compute(1)))
		tasks[at] = task(10000, 1, 0, compute(2))
		wantNoAssign(t, tasks, api.ErrNone, 0)
		tasks[at].Deadline = 2
		want := []int{7, 7, 7, 7, 7, 7, 7, 7}
		lowest := 0
		for i := api.MaxTasks - 1; i >= 0; i-- {
			if i != at {
				want[i] = lowest
				lowest++
			}
		}
		wantAssign(t, tasks, want...)
	}
}

func TestAssignGreatestNumber(t *testing.T) {
	// 4 is too late as the lowest one; of the others 3 is the greatest.
	wantAssign(t, set(
		task(100, 100, 0, compute(2)), task(100, 100, 0, compute(2)), task(100, 3, 0, compute(1)), task(100, 50, 0, compute(2)), task(100, 3, 0, compute(2)),
	), 2, 1, 4, 0, 3)
	// A longer Deadline, Period or demand is no reason to be lower.
	wantAssign(t, set(task(1000, 1000, 0, compute(50)), task(200, 100, 0, compute(2))), 1, 0)
	wantAssign(t, set(task(200, 100, 0, compute(2)), task(1000, 1000, 0, compute(50))), 1, 0)
	// Both get a bound as the lowest one just at the Deadline; then just one.
	wantAssign(t, set(task(9, 9, 0, compute(4)), task(9, 9, 0, compute(5))), 1, 0)
	wantAssign(t, set(task(9, 9, 0, compute(4)), task(9, 8, 0, compute(5))), 0, 1)
	wantAssign(t, set(task(9, 8, 0, compute(4)), task(9, 9, 0, compute(5))), 1, 0)
	wantNoAssign(t, set(task(9, 8, 0, compute(4)), task(9, 8, 0, compute(5))), api.ErrNone, 0)
	// The one with the greatest number of all is not the lowest one, but comes
	// as soon as it can.
	wantAssign(t, set(
		task(100, 100, 0, compute(1)), task(100, 100, 0, compute(1)), task(100, 100, 0, compute(1)), task(100, 3, 0, compute(1)),
	), 3, 2, 0, 1)
}

func TestAssignNeitherByNumberNorTurnedRound(t *testing.T) {
	for _, x := range []struct {
		tasks      []api.Task
		priorities []int
	}{
		{set(task(8, 5, 0, compute(5)), task(20, 20, 0, compute(3)), task(20, 9, 0, compute(3))), []int{2, 0, 1}},
		{set(task(20, 9, 0, compute(3)), task(20, 20, 0, compute(3)), task(8, 5, 0, compute(5))), []int{1, 0, 2}},
		{set(task(20, 9, 0, compute(3)), task(8, 5, 0, compute(5)), task(20, 20, 0, compute(3))), []int{1, 2, 0}},
		{set(task(20, 20, 0, compute(3)), task(8, 5, 0, compute(5)), task(20, 9, 0, compute(3))), []int{0, 2, 1}},
		// Just the jitter tells them apart.
		{set(task(30, 20, 12, compute(4)), task(30, 20, 8, compute(4)), task(30, 20, 16, compute(4))), []int{1, 0, 2}},
	} {
		for _, priorities := range [][]int{{0, 1, 2}, {2, 1, 0}} {
			if bounds, _, _ := cadence.Analyze(x.tasks, priorities); !slices.Contains(bounds, 0) {
				t.Fatalf("Analyze(%+v, %v) = %v", x.tasks, priorities, bounds)
			}
		}
		wantAssign(t, x.tasks, x.priorities...)
	}
}

// TestAssignSections: whether the long section of 1 blocks 2 hangs on 0's being
// above 2.
func TestAssignSections(t *testing.T) {
	locks := func(r int) api.Task { return task(100, 11, 0, lock(r), compute(1), unlock(r), compute(1)) }
	long := task(100, 100, 0, lock(5), compute(6), unlock(5), compute(1))
	plain := task(100, 10, 0, compute(3))

	wantBounds(t, set(locks(5), long, plain), []int{2, 0, 1}, 2+6, 7+5, 0)
	wantBounds(t, set(locks(5), long, plain), []int{1, 0, 2}, 2+6+3, 7+5, 3)
	wantAssign(t, set(locks(5), long, plain), 1, 0, 2)
	wantAssign(t, set(locks(4), long, plain), 2, 0, 1)
	plain.Deadline = 11
	wantAssign(t, set(locks(5), long, plain), 2, 0, 1)
	plain.Deadline = 10
	tight := locks(5)
	tight.Deadline = 10
	wantNoAssign(t, set(tight, long, plain), api.ErrNone, 0)

	// Just the blocking makes it too late; it is no less with the other on top.
	for deadline, e := range map[int]api.Errno{8: api.OK, 7: api.ErrNone} {
		tasks := set(task(100, deadline, 0, lock(5), compute(1), unlock(5), compute(1)), task(100, 9, 0, lock(5), compute(6), unlock(5), compute(1)))
		if e == api.OK {
			wantAssign(t, tasks, 1, 0)
		} else {
			wantNoAssign(t, tasks, e, 0)
		}
		tasks[1].Program[0], tasks[1].Program[2] = lock(6), unlock(6)
		wantAssign(t, tasks, 1, 0)
	}

	// The inner section reaches as high as the outer one doesn't.
	nested := task(100, 100, 0, lock(5), compute(2), lock(4), compute(5), unlock(4), unlock(5), compute(1))
	wantAssign(t, set(task(100, 7, 0, lock(4), compute(1), unlock(4), compute(1)), nested), 1, 0)
	wantNoAssign(t, set(task(100, 6, 0, lock(4), compute(1), unlock(4), compute(1)), nested), api.ErrNone, 0)
	wantNoAssign(t, set(task(100, 7, 0, lock(5), compute(1), unlock(5), compute(1)), nested), api.ErrNone, 0)
}

// orders are all priorities of n tasks.
func orders(n int) [][]int {
	if n == 0 {
		return [][]int{nil}
	}
	var all [][]int
	for _, rest := range orders(n - 1) {
		for at := range n {
			all = append(all, slices.Insert(slices.Clone(rest), at, n-1))
		}
	}
	return all
}

// byPriority are the tasks, the lowest one first.
func byPriority(priorities []int) []int {
	tasks := make([]int, len(priorities))
	for task, priority := range priorities {
		tasks[priority] = task
	}
	return tasks
}

// assignInWords takes the document's words one by one; nil, if nobody gets a
// bound with the next priority.
func assignInWords(tasks []api.Task) []int {
	var placed []int
	for range tasks {
		chosen := -1
		for task := range tasks {
			if !slices.Contains(placed, task) && boundInWords(tasks, orderWithNext(placed, task, len(tasks)), task) > 0 {
				chosen = task
			}
		}
		if chosen == -1 {
			return nil
		}
		placed = append(placed, chosen)
	}
	return byPriority(placed)
}

// orderWithNext are priorities of n tasks with those that are placed as the
// lowest ones, and the next one above them.
func orderWithNext(placed []int, next, n int) []int {
	order := append(slices.Clone(placed), next)
	for task := range n {
		if !slices.Contains(order, task) {
			order = append(order, task)
		}
	}
	return byPriority(order)
}

// goodOrders are all with which Analyze gives no 0.
func goodOrders(tasks []api.Task, all [][]int) [][]int {
	var good [][]int
	for _, priorities := range all {
		if bounds, e, _ := cadence.Analyze(tasks, priorities); e == api.OK && !slices.Contains(bounds, 0) {
			good = append(good, priorities)
		}
	}
	return good
}

// foundFirst is, of several orders, the one that has the task with the greatest
// number as the lowest one, and so on upward.
func foundFirst(good [][]int) []int {
	return slices.MaxFunc(good, func(a, b []int) int { return slices.Compare(byPriority(a), byPriority(b)) })
}

// drawTight draws tasks that have hardly the time, or hardly not.
func drawTight(draw *rand.Rand, n int) []api.Task {
	tasks := make([]api.Task, n)
	kind, room := draw.IntN(3), 1+draw.IntN(2)
	for i := range tasks {
		tasks[i] = drawTask(draw)
		switch kind {
		case 0:
			tasks[i].Program = drawLocker(draw)
		case 1:
			tasks[i].Program = slices.DeleteFunc(tasks[i].Program, func(step api.Step) bool { return step.Kind != api.Compute })
		}
		demand := sumOfComputes(tasks[i].Program)
		tasks[i].Period = demand*(1+draw.IntN(1+room*n)) + draw.IntN(3*n)
		tasks[i].Deadline = tasks[i].Period - draw.IntN(1+tasks[i].Period/3)
		tasks[i].Jitter = draw.IntN(1 + tasks[i].Deadline/8)
	}
	return tasks
}

// TestAssignAgainstAllOrders is P15, and what P5 says of several orders.
func TestAssignAgainstAllOrders(t *testing.T) {
	draw := rand.New(rand.NewPCG(9, 10))
	// How many sets have no order, some orders, all orders: those without
	// sections, and those with.
	counts := map[bool]*[3]int{false: {}, true: {}}
	for n, sets := range []int{0, 50, 1000, 4000, 4000, 1000, 100, 10} {
		all := orders(n)
		for range sets {
			tasks := drawTight(draw, n)
			count := counts[slices.ContainsFunc(tasks, locksSomething)]
			good := goodOrders(tasks, all)
			switch len(good) {
			case 0:
				count[0]++
				wantNoAssign(t, tasks, api.ErrNone, 0)
				continue
			case len(all):
				count[2]++
			default:
				count[1]++
			}
			wantAssign(t, tasks, foundFirst(good)...)
		}
	}
	for sections, count := range counts {
		if slices.Min(count[:]) < 200 {
			t.Errorf("the sets are too much alike: with sections: %v; %d have no order, %d some, %d take every one", sections, count[0], count[1], count[2])
		}
	}
}

func locksSomething(task api.Task) bool {
	return slices.ContainsFunc(task.Program, func(step api.Step) bool { return step.Kind == api.Lock })
}

// TestAssignAgainstWords has sets up to the greatest ones.
func TestAssignAgainstWords(t *testing.T) {
	draw := rand.New(rand.NewPCG(11, 12))
	none, found := 0, 0
	for i := range 2400 {
		tasks := drawTight(draw, 1+i%api.MaxTasks)
		want := assignInWords(tasks)
		if want == nil {
			none++
			wantNoAssign(t, tasks, api.ErrNone, 0)
			continue
		}
		found++
		wantAssign(t, tasks, want...)
		if bounds, e, _ := cadence.Analyze(tasks, want); e != api.OK || slices.Contains(bounds, 0) {
			t.Errorf("Analyze(%+v, %v) = %v, %d", tasks, want, bounds, e)
		}
	}
	if none < 500 || found < 500 {
		t.Errorf("the sets are too much alike: %d have no priorities, %d have some", none, found)
	}
}

// TestRunsAsAssigned: kernels with the priorities that come out keep their
// deadlines (P11 to P13).
func TestRunsAsAssigned(t *testing.T) {
	draw := rand.New(rand.NewPCG(13, 14))
	counts := map[api.Errno]int{}
	for found := 0; found < 100; {
		tasks := drawTight(draw, 1+draw.IntN(5))
		priorities, e, _ := cadence.Assign(tasks)
		if e != api.OK {
			continue
		}
		found++
		r := newRun(t, tasks, priorities)
		for range 150 {
			drawArrivals(t, draw, r, found%2 == 0, counts)
			r.tick(t)
			r.compare(t)
		}
	}
}

func TestAssignLeavesArguments(t *testing.T) {
	late := set(task(10, 1, 0, compute(2)), with(compute(1)))
	for _, tasks := range [][]api.Task{example1(), example2(), late, set(), set(with(), with(compute(1))), repeat(9, with(compute(1)))} {
		handed := roomy(tasks)
		ahead := whole(handed)
		cadence.Assign(handed)
		if !equalTasks(whole(handed), ahead) {
			t.Errorf("tasks %+v became %+v", ahead, whole(handed))
		}
	}
}

func TestAssignAnswersShareNothing(t *testing.T) {
	tasks := example2()
	k := newKernel(t, tasks, 2, 1, 0)
	first, _, _ := cadence.Assign(tasks)
	second, _, _ := cadence.Assign(tasks)
	bounds, _, _ := cadence.Analyze(tasks, first)
	for i := range first[:cap(first)] {
		first[:cap(first)][i] = -1
	}
	first = append(first, 7, 7, 7)
	if !slices.Equal(second, []int{2, 1, 0}) || !slices.Equal(bounds, []int{8, 17, 16}) || !equalTasks(tasks, example2()) {
		t.Errorf("writing over a list changed %v, %v or %+v", second, bounds, tasks)
	}
	second = append(second, 7)
	second[0] = 7
	if !slices.Equal(first, []int{-1, -1, -1, 7, 7, 7}) {
		t.Errorf("writing over a list changed %v", first)
	}
	wantAssign(t, tasks, 2, 1, 0)
	arrive(t, k, 2, 0, 5, 1)
	wantTicks(t, k, "cccccC")
}

func TestAssignKeepsNothing(t *testing.T) {
	tasks := example1()
	answer, _, _ := cadence.Assign(tasks)
	// As the lowest one task 1 is too late now, though all else is as it was.
	tasks[1].Deadline = 8
	if !slices.Equal(answer, []int{1, 0}) {
		t.Errorf("an answer became %v", answer)
	}
	wantAssign(t, tasks, 0, 1)
	tasks[0].Deadline = 6
	wantNoAssign(t, tasks, api.ErrNone, 0)
	tasks[0].Program[0].N = 0
	wantNoAssign(t, tasks, api.ErrProgram, 0)
	wantAssign(t, example1(), 1, 0)
	wantNoAssign(t, nil, api.ErrMany, 0)
	for range 100 {
		wantAssign(t, example2(), 2, 1, 0)
	}
}

func TestAssignFromSeveralSides(t *testing.T) {
	draw := rand.New(rand.NewPCG(15, 16))
	var group sync.WaitGroup
	for range 8 {
		tasks := drawTight(draw, 5)
		want, wantE, _ := cadence.Assign(tasks)
		for range 2 {
			group.Go(func() {
				for range 20 {
					if got, e, place := cadence.Assign(tasks); !slices.Equal(got, want) || e != wantE || place != 0 {
						t.Errorf("Assign(%+v) = %v, %d, %d, want %v, %d", tasks, got, e, place, want, wantE)
					}
				}
			})
		}
	}
	group.Wait()
}
