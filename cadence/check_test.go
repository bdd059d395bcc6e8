package cadence_test

import (
	"fmt"
	"slices"
	"testing"

	"cadence/api"
	"cadence/cadence"
)

func TestCheckTakesOrdinarySets(t *testing.T) {
	wantCheck(t, set(task(10, 10, 0, compute(3)), task(20, 18, 2, compute(4))), api.OK, 0)
	wantCheck(t, set(
		task(10, 10, 0, lock(0), compute(1), unlock(0), compute(2)),
		task(20, 18, 2, compute(4)),
		task(50, 50, 0, lock(0), compute(5), unlock(0), compute(1)),
	), api.OK, 0)
}

func TestCheckCountsTasks(t *testing.T) {
	good := with(compute(1))
	wantCheck(t, nil, api.ErrMany, 0)
	wantCheck(t, set(), api.ErrMany, 0)
	for n := 1; n <= api.MaxTasks; n++ {
		wantCheck(t, repeat(n, good), api.OK, 0)
	}
	wantCheck(t, repeat(api.MaxTasks+1, good), api.ErrMany, 0)
	wantCheck(t, repeat(1000, good), api.ErrMany, 0)
	// Too many of them comes ahead of what is wrong with one.
	wantCheck(t, repeat(api.MaxTasks+1, api.Task{}), api.ErrMany, 0)
}

func TestCheckTimes(t *testing.T) {
	for _, x := range []struct {
		period, deadline, jitter int
		e                        api.Errno
	}{
		{1, 1, 0, api.OK}, {1, 1, 1, api.OK}, {0, 1, 0, api.ErrTimes}, {0, 0, 0, api.ErrTimes}, {-1, -1, -1, api.ErrTimes},
		{10000, 10000, 10000, api.OK}, {10000, 1, 0, api.OK}, {10001, 1, 0, api.ErrTimes}, {10001, 10001, 0, api.ErrTimes},
		{5, 1, 0, api.OK}, {5, 5, 0, api.OK}, {5, 0, 0, api.ErrTimes}, {5, -1, 0, api.ErrTimes}, {5, 6, 0, api.ErrTimes},
		{5, 3, 0, api.OK}, {5, 3, 3, api.OK}, {5, 3, 4, api.ErrTimes}, {5, 3, 5, api.ErrTimes}, {5, 3, -1, api.ErrTimes},
	} {
		wantCheck(t, set(task(x.period, x.deadline, x.jitter, compute(1))), x.e, 0)
	}
}

func TestCheckPrograms(t *testing.T) {
	one := compute(1)
	for _, program := range [][]api.Step{
		{one},
		{one, lock(3), one, unlock(3), one},
		{lock(0), one, unlock(0), lock(0), one, unlock(0), one},
		{lock(0), lock(1), one, unlock(1), unlock(0), one},
		{lock(5), one, lock(2), one, one, unlock(2), one, unlock(5), one, one},
		{lock(0), lock(1), lock(2), lock(3), lock(4), lock(5), lock(6), one, unlock(6), unlock(5), unlock(4), unlock(3), unlock(2), unlock(1), unlock(0), one},
	} {
		wantCheck(t, set(with(program...)), api.OK, 0)
	}
	for _, program := range [][]api.Step{
		// Example 3.
		{}, {compute(0)}, {lock(0)}, {lock(0), lock(0)}, {unlock(0)},
		{lock(0), lock(1), unlock(0), unlock(1), one}, {lock(0), lock(1), one, unlock(0), unlock(1), one},
		{lock(0), unlock(0), one}, {lock(0), one, unlock(0)},
		// A resource that is held already, though otherwise all is in order.
		{lock(0), one, lock(0), one, unlock(0), unlock(0), one},
		{lock(0), lock(1), lock(0), one, unlock(0), unlock(1), unlock(0), one},
		// Held at the end.
		{lock(0), one}, {lock(0), lock(1), one, unlock(1), one},
		// Not held, or not any more.
		{unlock(0), one}, {one, unlock(0), one}, {lock(0), one, unlock(1), one}, {lock(0), one, unlock(0), unlock(0), one},
		// Right behind a Lock, within another section.
		{lock(0), one, lock(1), unlock(1), unlock(0), one}, {lock(0), lock(1), unlock(1), one, unlock(0), one},
		// Kinds that are none.
		{{}, one}, {{Kind: 0, N: 1}, one}, {{Kind: 4, N: 1}, one}, {{Kind: -1, N: 1}, one}, {one, {Kind: 4, N: 1}},
	} {
		wantCheck(t, set(with(program...)), api.ErrProgram, 0)
	}
}

func TestCheckNumbersOfSteps(t *testing.T) {
	one := compute(1)
	for n := 1; n <= api.MaxSteps; n++ {
		wantCheck(t, set(with(repeat(n, one)...)), api.OK, 0)
	}
	wantCheck(t, set(with(repeat(api.MaxSteps+1, one)...)), api.ErrProgram, 0)
	wantCheck(t, set(with(repeat(1000, one)...)), api.ErrProgram, 0)

	for n, e := range map[int]api.Errno{-1: api.ErrProgram, 0: api.ErrProgram, 1: api.OK, 2: api.OK, api.MaxCompute: api.OK, api.MaxCompute + 1: api.ErrProgram} {
		wantCheck(t, set(with(compute(n))), e, 0)
		wantCheck(t, set(with(compute(n), one)), e, 0)
		wantCheck(t, set(with(lock(0), compute(n), unlock(0), one)), e, 0)
	}
	for r := range api.MaxResources {
		wantCheck(t, set(with(lock(r), one, unlock(r), one)), api.OK, 0)
	}
	for _, r := range []int{-1, api.MaxResources, api.MaxResources + 1} {
		wantCheck(t, set(with(lock(r), one, unlock(r), one)), api.ErrProgram, 0)
		wantCheck(t, set(with(lock(0), one, unlock(r), one)), api.ErrProgram, 0)
	}
}

func TestCheckTellsTheFirst(t *testing.T) {
	good, times, program, both := with(compute(1)), task(0, 1, 0, compute(1)), with(), task(5, 6, 0)
	wantCheck(t, set(both), api.ErrTimes, 0)
	wantCheck(t, set(good, both, times), api.ErrTimes, 1)
	wantCheck(t, set(program, times), api.ErrProgram, 0)
	wantCheck(t, set(times, program), api.ErrTimes, 0)
	wantCheck(t, set(good, good, program, times, both), api.ErrProgram, 2)
	for at := range api.MaxTasks {
		tasks := repeat(api.MaxTasks, good)
		tasks[at] = program
		wantCheck(t, tasks, api.ErrProgram, at)
		tasks[at] = times
		wantCheck(t, tasks, api.ErrTimes, at)
	}
}

// alphabet has the steps of which TestCheckAgainstGrammar makes its programs.
var alphabet = []api.Step{compute(1), lock(0), unlock(0), lock(7), unlock(7)}

// bodies makes all lists of n steps that may stand where the resources of held
// are held, and that hold no others at their end.
func bodies(n int, held []int) [][]api.Step {
	if n == 0 {
		return [][]api.Step{nil}
	}
	var all [][]api.Step
	for _, rest := range bodies(n-1, held) {
		all = append(all, slices.Concat([]api.Step{compute(1)}, rest))
	}
	for _, r := range []int{0, 7} {
		if slices.Contains(held, r) {
			continue
		}
		for inner := 1; inner+2 <= n; inner++ {
			for _, body := range bodies(inner, append(slices.Clone(held), r)) {
				for _, rest := range bodies(n-2-inner, held) {
					all = append(all, slices.Concat([]api.Step{lock(r)}, body, []api.Step{unlock(r)}, rest))
				}
			}
		}
	}
	return all
}

// TestCheckAgainstGrammar holds every program of up to 7 steps against those
// that are built section by section.
func TestCheckAgainstGrammar(t *testing.T) {
	for n := 1; n <= 7; n++ {
		may := map[string]bool{}
		for _, body := range bodies(n-1, nil) {
			may[fmt.Sprint(append(body, compute(1)))] = true
		}
		program := make([]api.Step, n)
		var fill func(at int)
		fill = func(at int) {
			if at < n {
				for _, step := range alphabet {
					program[at] = step
					fill(at + 1)
				}
				return
			}
			e, _ := cadence.Check(set(with(program...)))
			if (e == api.OK) != may[fmt.Sprint(program)] {
				t.Errorf("Check of %v = %d", program, e)
			}
		}
		fill(0)
	}
}
