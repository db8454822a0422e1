package rma_test

import (
	"slices"
	"testing"

	"recoup/api"
	"recoup/rma"
)

// Their numbers are kept in bytes, and stay.
func TestTheNumbersOfStatesAndWays(t *testing.T) {
	states := []int{rma.Open, rma.Labelled, rma.Moving, rma.Docked, rma.Settling, rma.Closed, rma.Denied, rma.Expired, rma.Cancelled}
	ways := []int{rma.ByLabel, rma.ByPick, rma.ByReceipt, rma.ByGrades, rma.ByLoss, rma.BySettling, rma.ByDenial, rma.ByExpiry, rma.ByCancel}
	want := []int{1, 2, 3, 4, 5, 6, 7, 8, 9}
	if !slices.Equal(states, want) || !slices.Equal(ways, want) || rma.LostGrade != 4 {
		t.Error(states, ways, rma.LostGrade)
	}
}

// dueSteps are all rows of the chapter's table, by state and what happens.
func dueSteps() map[[2]int]int {
	return map[[2]int]int{
		{rma.Open, rma.ByLabel}:        rma.Labelled,
		{rma.Labelled, rma.ByPick}:     rma.Moving,
		{rma.Moving, rma.ByReceipt}:    rma.Docked,
		{rma.Docked, rma.ByGrades}:     rma.Settling,
		{rma.Moving, rma.ByLoss}:       rma.Settling,
		{rma.Settling, rma.BySettling}: rma.Closed,
		{rma.Open, rma.ByDenial}:       rma.Denied,
		{rma.Labelled, rma.ByDenial}:   rma.Denied,
		{rma.Open, rma.ByExpiry}:       rma.Expired,
		{rma.Labelled, rma.ByExpiry}:   rma.Expired,
		{rma.Open, rma.ByCancel}:       rma.Cancelled,
		{rma.Labelled, rma.ByCancel}:   rma.Cancelled,
	}
}

func TestEachStep(t *testing.T) {
	for step, want := range dueSteps() {
		if state, e := rma.Next(step[0], step[1]); state != want || e != api.OK {
			t.Error(step, state, e)
		}
	}
}

func TestThereAreNoOtherSteps(t *testing.T) {
	steps, taken := dueSteps(), 0
	for _, state := range allNumbers() {
		for _, by := range allNumbers() {
			if _, ok := steps[[2]int{state, by}]; ok {
				taken++
				continue
			}
			if next, e := rma.Next(state, by); next != 0 || e != api.ErrState {
				t.Error(state, by, next, e)
			}
		}
	}
	if taken != 12 {
		t.Error(taken)
	}
}

// A number that is a state or a way but for its upper half is none.
func TestNumbersThatAreNone(t *testing.T) {
	for step := range dueSteps() {
		for _, by := range []int{1 << 8, 1 << 16, 1 << 32, 1 << 62, smallest, -256, -10} {
			for _, c := range [][2]int{{step[0] + by, step[1]}, {step[0], step[1] + by}, {step[0] + by, step[1] + by}, {step[1] + by, step[0] - by}} {
				if next, e := rma.Next(c[0], c[1]); next != 0 || e != api.ErrState {
					t.Error(c, next, e)
				}
			}
		}
	}
}

// Whatever happens, a return comes to an end, and stays there; there are so many
// ways.
func TestEachWayEnds(t *testing.T) {
	ways := map[int]int{}
	var walk func(state, left int)
	walk = func(state, left int) {
		if left == 0 {
			t.Fatal("it doesn't end", state)
		}
		moves := 0
		for by := range 11 {
			if next, e := rma.Next(state, by); e == api.OK {
				moves++
				walk(next, left-1)
			}
		}
		if done := rma.Done(rma.RMA{State: state}); done != (moves == 0) {
			t.Error(state, done, moves)
		}
		if moves == 0 {
			ways[state]++
		}
	}
	walk(rma.Open, 7)
	if len(ways) != 4 || ways[rma.Closed] != 2 || ways[rma.Denied] != 2 || ways[rma.Expired] != 2 || ways[rma.Cancelled] != 2 {
		t.Error(ways)
	}
}

// It is the state alone that tells whether a return is done.
func TestDone(t *testing.T) {
	for _, state := range allNumbers() {
		for _, r := range append(someReturns(), wrongReturns()...) {
			r.State = state
			if rma.Done(r) != slices.Contains([]int{6, 7, 8, 9}, state) {
				t.Error(state, r)
			}
		}
	}
}
