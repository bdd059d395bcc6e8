package cadence_test

import (
	"strings"
	"testing"

	"cadence/api"
)

func TestTickExample4(t *testing.T) {
	k := newKernel(t, example2(), 2, 1, 0)
	arrive(t, k, 2, 0, 5, 1)
	wantHolds(t, k)
	wantTicks(t, k, "c")
	arrive(t, k, 0, 0, 1, 2)
	for range 4 {
		wantHolds(t, k, 2)
		wantTicks(t, k, "c")
	}
	wantHolds(t, k)
	wantTicks(t, k, "aaAC")
}

func TestTickExample5(t *testing.T) {
	k := newKernel(t, example2(), 2, 1, 0)
	arrive(t, k, 0, 0, 1, 2)
	wantTicks(t, k, "aaA")
	wantArrive(t, k, api.ErrEarly, 0, 0, 1, 2)

	k = newKernel(t, example2(), 2, 1, 0)
	arrive(t, k, 1, 2, 4)
	wantTicks(t, k, "..bbbB.")
}

func TestTickWithoutJobs(t *testing.T) {
	k := newKernel(t, set(with(compute(1))), 0)
	wantTicks(t, k, "...")
	wantLook(t, k, 3, 3)
	arrive(t, k, 0, 0, 1)
	wantTicks(t, k, "A..")
	wantLook(t, k, 6, 5)
}

func TestTickNotReleased(t *testing.T) {
	// The higher one comes in as soon as it is released, not as it arrives.
	k := newKernel(t, set(task(20, 20, 5, compute(2)), task(20, 20, 0, compute(6))), 1, 0)
	arrive(t, k, 0, 3, 2)
	arrive(t, k, 1, 0, 6)
	wantTicks(t, k, "bbbaAbbB.")
}

func TestTickPriorities(t *testing.T) {
	tasks := repeat(api.MaxTasks, task(100, 100, 0, compute(2)))
	k := newKernel(t, tasks, 3, 1, 4, 0, 5, 7, 2, 6)
	for number := range tasks {
		arrive(t, k, number, 0, 2)
	}
	wantTicks(t, k, "fFhHeEcCaAgGbBdD.")
}

func TestTickQueued(t *testing.T) {
	// Jobs of one task go one behind the other, also if two are released at
	// once.
	k := newKernel(t, set(task(2, 2, 2, compute(3)), task(50, 50, 0, compute(4))), 1, 0)
	arrive(t, k, 0, 2, 3)
	arrive(t, k, 1, 0, 4)
	wantTicks(t, k, "bb")
	arrive(t, k, 0, 0, 1)
	wantTicks(t, k, "aa")
	arrive(t, k, 0, 0, 2)
	wantTicks(t, k, "AAaAbB.")
	wantJobs(t, k,
		api.Job{Task: 0, Arrived: 0, Released: 2, Done: 5},
		api.Job{Task: 1, Arrived: 0, Released: 0, Done: 10},
		api.Job{Task: 0, Arrived: 2, Released: 2, Done: 6},
		api.Job{Task: 0, Arrived: 4, Released: 4, Done: 8},
	)

	k = newKernel(t, set(task(1, 1, 1, compute(1))), 0)
	arrive(t, k, 0, 1, 1)
	wantTicks(t, k, ".")
	arrive(t, k, 0, 0, 1)
	wantTicks(t, k, "AA.")
}

func TestTickSectionsWithin(t *testing.T) {
	// The ceilings: resource 0: 0; resource 1: 1; resource 2: 2.
	low := task(100, 100, 0, lock(0), compute(2), lock(1), compute(2), lock(2), compute(2), unlock(2), compute(2), unlock(1), compute(2), unlock(0), compute(2))
	middle := task(100, 100, 0, lock(1), compute(1), unlock(1), compute(1))
	high := task(100, 100, 0, lock(2), compute(1), unlock(2), compute(1))
	for _, x := range []struct {
		ahead string
		holds []int
		then  string
	}{
		{"a", []int{0, -1, -1}, "cCbBaaaaaaaaaaA"},
		{"aa", []int{0, -1, -1}, "cCbBaaaaaaaaaA"},
		{"aaa", []int{0, 0, -1}, "cCaaaaabBaaaA"},
		{"aaaa", []int{0, 0, -1}, "cCaaaabBaaaA"},
		{"aaaaa", []int{0, 0, 0}, "acCaabBaaaA"},
		{"aaaaaa", []int{0, 0, -1}, "cCaabBaaaA"},
		{"aaaaaaa", []int{0, 0, -1}, "cCabBaaaA"},
		{"aaaaaaaa", []int{0, -1, -1}, "cCbBaaaA"},
		{"aaaaaaaaaa", []int{-1, -1, -1}, "cCbBaA"},
		{"aaaaaaaaaaa", []int{-1, -1, -1}, "cCbBA"},
	} {
		k := newKernel(t, set(low, middle, high), 0, 1, 2)
		arrive(t, k, 0, 0, 2, 2, 2, 2, 2, 2)
		wantTicks(t, k, x.ahead)
		wantHolds(t, k, x.holds...)
		arrive(t, k, 1, 0, 1, 1)
		arrive(t, k, 2, 0, 1, 1)
		wantTicks(t, k, x.then+".")
		wantHolds(t, k)
	}
}

func TestTickOuterCeilingCounts(t *testing.T) {
	// The resource locked last has the lower ceiling: the highest one counts.
	low := task(100, 100, 0, lock(0), compute(1), lock(1), compute(2), unlock(1), compute(1), unlock(0), compute(1))
	high := task(100, 100, 0, lock(0), compute(1), unlock(0), compute(1))
	k := newKernel(t, set(low, high), 0, 1)
	arrive(t, k, 0, 0, 1, 2, 1, 1)
	wantTicks(t, k, "aa")
	wantHolds(t, k, 0, 0)
	arrive(t, k, 1, 0, 1, 1)
	wantTicks(t, k, "aabBA.")
}

func TestTickComesAtASection(t *testing.T) {
	low := task(100, 100, 0, compute(2), lock(0), compute(2), unlock(0), compute(1))
	high := task(100, 100, 3, lock(0), compute(1), unlock(0), compute(1))
	for _, x := range []struct {
		jitter int
		want   string
	}{
		{0, "bBaaaaA."},
		{1, "abBaaaA."},
		{2, "aabBaaA."}, // it stands at the Lock, and has not taken it
		{3, "aaaabBA."}, // it has taken it
	} {
		k := newKernel(t, set(low, high), 0, 1)
		arrive(t, k, 0, 0, 2, 2, 1)
		arrive(t, k, 1, x.jitter, 1, 1)
		wantTicks(t, k, x.want)
	}
}

func TestTickSameActivePriority(t *testing.T) {
	// The holder's active priority is just the other one's own, whichever of
	// both has the greater number.
	holder := task(100, 100, 0, lock(5), compute(3), unlock(5), compute(1))
	other := task(100, 100, 0, lock(5), compute(1), unlock(5), compute(1))
	plain := task(100, 100, 0, compute(2))

	k := newKernel(t, set(holder, other), 0, 1)
	arrive(t, k, 0, 0, 3, 1)
	wantTicks(t, k, "a")
	arrive(t, k, 1, 0, 1, 1)
	wantTicks(t, k, "aabBA.")

	k = newKernel(t, set(other, holder), 1, 0)
	arrive(t, k, 1, 0, 3, 1)
	wantTicks(t, k, "b")
	arrive(t, k, 0, 0, 1, 1)
	wantTicks(t, k, "bbaAB.")

	// One above the ceiling comes in, and the holder goes on ahead of the other.
	k = newKernel(t, set(plain, other, holder), 2, 1, 0)
	arrive(t, k, 2, 0, 3, 1)
	wantTicks(t, k, "c")
	arrive(t, k, 0, 0, 2)
	arrive(t, k, 1, 0, 1, 1)
	wantTicks(t, k, "aAccbBC.")
}

func TestTickHolderAboveItsCeiling(t *testing.T) {
	// Nobody else locks the resource: the ceiling is the task's own priority,
	// and one above goes ahead while it is held.
	k := newKernel(t, set(task(100, 100, 0, lock(3), compute(3), unlock(3), compute(1)), task(100, 100, 0, compute(2))), 0, 1)
	arrive(t, k, 0, 0, 3, 1)
	wantTicks(t, k, "a")
	arrive(t, k, 1, 0, 2)
	wantTicks(t, k, "b")
	wantHolds(t, k, -1, -1, -1, 0)
	wantTicks(t, k, "Baa")
	wantHolds(t, k)
	wantTicks(t, k, "A.")

	// A higher one's resource, that lower ones lock too, doesn't lower it.
	high := task(100, 100, 0, lock(0), compute(3), unlock(0), compute(1))
	k = newKernel(t, set(high, task(100, 100, 0, lock(0), compute(1), unlock(0), compute(1)), task(100, 100, 0, compute(1))), 2, 0, 1)
	arrive(t, k, 0, 0, 3, 1)
	wantTicks(t, k, "a")
	arrive(t, k, 1, 0, 1, 1)
	arrive(t, k, 2, 0, 1)
	wantTicks(t, k, "aaACbB.")
}

func TestTickUnlocksInARow(t *testing.T) {
	row := task(100, 100, 0,
		lock(0), lock(1), lock(2), compute(2), unlock(2), unlock(1), unlock(0),
		lock(1), compute(1), unlock(1), lock(2), compute(1), unlock(2), compute(1))
	other := task(100, 100, 0, lock(0), lock(1), lock(2), compute(1), unlock(2), unlock(1), unlock(0), compute(1))
	k := newKernel(t, set(row, other), 0, 1)
	arrive(t, k, 0, 0, 2, 1, 1, 1)
	wantHolds(t, k)
	wantTicks(t, k, "a")
	wantHolds(t, k, 0, 0, 0)
	arrive(t, k, 1, 0, 1, 1)
	wantTicks(t, k, "a")
	wantHolds(t, k) // the Lock behind the Unlocks waits for the next tick
	wantTicks(t, k, "b")
	wantHolds(t, k)
	wantTicks(t, k, "B")
	wantTicks(t, k, "a")
	wantHolds(t, k)
	wantTicks(t, k, "aA.")
}

func TestTickUnlocksUpToACompute(t *testing.T) {
	k := newKernel(t, set(with(lock(0), lock(1), lock(2), compute(1), unlock(2), unlock(1), compute(2), unlock(0), compute(1))), 0)
	arrive(t, k, 0, 0, 1, 2, 1)
	wantTicks(t, k, "a")
	wantHolds(t, k, 0, -1, -1)
	wantTicks(t, k, "a")
	wantHolds(t, k, 0, -1, -1)
	wantTicks(t, k, "a")
	wantHolds(t, k)
	wantTicks(t, k, "A.")
}

func TestTickComputeBehindCompute(t *testing.T) {
	k := newKernel(t, set(task(50, 50, 0, lock(0), compute(3), compute(3), unlock(0), compute(3), compute(3)), task(50, 50, 0, compute(1))), 0, 1)
	arrive(t, k, 0, 0, 2, 1, 3, 1)
	wantTicks(t, k, "aa")
	wantHolds(t, k, 0)
	arrive(t, k, 1, 0, 1)
	wantTicks(t, k, "Ba")
	wantHolds(t, k)
	wantTicks(t, k, "aaaA.")

	k = newKernel(t, set(with(repeat(api.MaxSteps, compute(api.MaxCompute))...)), 0)
	arrive(t, k, 0, 0, repeat(api.MaxSteps, 1)...)
	wantTicks(t, k, strings.Repeat("a", api.MaxSteps-1)+"A.")
	arrive(t, k, 0, 0, repeat(api.MaxSteps, api.MaxCompute)...)
	wantTicks(t, k, strings.Repeat("a", api.MaxSteps*api.MaxCompute-1)+"A.")
}

// TestTickShortDemands: a section ends with its job's demands, not with the
// program's.
func TestTickShortDemands(t *testing.T) {
	k := newKernel(t, example2(), 2, 1, 0)
	arrive(t, k, 2, 0, 1, 1)
	wantTicks(t, k, "c")
	wantHolds(t, k)
	arrive(t, k, 0, 0, 1, 1)
	wantTicks(t, k, "aAC.")
}

func TestHoldsEachResource(t *testing.T) {
	for r := range api.MaxResources {
		tasks := set(with(compute(1)), with(lock(r), compute(2), unlock(r), compute(1)))
		k := newKernel(t, tasks, 0, 1)
		holders := repeat(api.MaxResources, -1)
		wantHolds(t, k, holders...)
		arrive(t, k, 1, 0, 2, 1)
		wantHolds(t, k, holders...)
		wantTicks(t, k, "b")
		holders[r] = 1
		wantHolds(t, k, holders...)
		wantTicks(t, k, "b")
		wantHolds(t, k)
		wantTicks(t, k, "B.")
		wantHolds(t, k)
	}
}

func TestHoldsMany(t *testing.T) {
	var deep []api.Step
	for r := range 7 {
		deep = append(deep, lock(r))
	}
	deep = append(deep, compute(2))
	for r := range 7 {
		deep = append(deep, unlock(6-r))
	}
	k := newKernel(t, set(with(append(deep, compute(1))...), with(lock(7), compute(2), unlock(7), compute(1))), 0, 1)
	arrive(t, k, 0, 0, 2, 1)
	wantTicks(t, k, "a")
	arrive(t, k, 1, 0, 2, 1)
	wantTicks(t, k, "b")
	wantHolds(t, k, 0, 0, 0, 0, 0, 0, 0, 1)
	wantTicks(t, k, "bBa")
	wantHolds(t, k)
	wantTicks(t, k, "A.")
}

func TestHoldsNoResource(t *testing.T) {
	k := newKernel(t, example2(), 2, 1, 0)
	arrive(t, k, 2, 0, 5, 1)
	wantTicks(t, k, "c")
	for _, r := range append([]int{api.MaxResources, api.MaxResources + 1, 1000}, extremes...) {
		ahead := stateOf(k)
		if task, e := k.Holds(r); task != 0 || e != api.ErrTask {
			t.Errorf("Holds(%d) = %d, %d", r, task, e)
		}
		if after := stateOf(k); !after.equals(ahead) {
			t.Errorf("Holds(%d): %+v became %+v", r, ahead, after)
		}
	}
}
