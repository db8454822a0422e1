package rma_test

import (
	"slices"
	"testing"

	"recoup/rma"
)

func TestSomeReturnsAreRight(t *testing.T) {
	for _, r := range someReturns() {
		mustBeRight(t, r)
	}
	for _, r := range wrongReturns() {
		mustBeWrong(t, r)
	}
}

// Each number, at both ends, and beyond them.
func TestEachNumberHasEnds(t *testing.T) {
	r := sample()
	for k, n := range numbers(&r) {
		at := int64(k)
		for _, v := range []int64{n.least, n.least + 1, (n.least + n.most) / 2, n.most - 1, n.most} {
			if v >= n.least && v <= n.most {
				mustBeRight(t, with(at, v))
			}
		}
		for _, v := range append(wrongNumbers(), n.least-1, n.most+1, n.most+2, n.least-256, n.most+256, n.most+1<<32, n.least-1<<32) {
			mustBeWrong(t, with(at, v))
		}
	}
}

// What one number has too much another one can't make good.
func TestTwoNumbersBeyondTheirEnds(t *testing.T) {
	r := sample()
	l := numbers(&r)
	for k, n := range l {
		for j, m := range l {
			if j != k {
				mustBeWrong(t, with(int64(k), n.most+1, int64(j), m.most+1))
				mustBeWrong(t, with(int64(k), n.most+1, int64(j), m.least-1))
				mustBeWrong(t, with(int64(k), n.most+1, int64(j), m.least))
				mustBeDue(t, with(int64(k), n.most, int64(j), m.least))
			}
		}
	}
}

func TestAllAtTheirEnds(t *testing.T) {
	for _, most := range []bool{false, true} {
		r := sample()
		for _, n := range fields(&r) {
			if most {
				n.set(n.most)
			} else {
				n.set(n.least)
			}
		}
		mustBeRight(t, r)
		r.Credit = !r.Credit
		mustBeRight(t, r)
	}
}

func TestEachStateIsRight(t *testing.T) {
	for _, state := range allNumbers() {
		r := sample()
		if r.State = state; state >= rma.Open && state <= rma.Cancelled {
			mustBeRight(t, r)
		} else {
			mustBeWrong(t, r)
		}
	}
}

func TestHowManyUnits(t *testing.T) {
	for n := range 260 {
		if n >= 1 && n <= 200 {
			mustBeRight(t, many(n))
		} else {
			mustBeWrong(t, many(n))
		}
	}
	// Too many, none of which rises.
	mustBeWrong(t, lists(make([]int, 256), make([]int, 256)))
	mustBeWrong(t, lists(make([]int, 1<<16+1), make([]int, 1<<16+1)))
}

func TestUnitsRise(t *testing.T) {
	for _, c := range []struct {
		units []int
		right bool
	}{
		{[]int{0}, true}, {[]int{199}, true}, {[]int{200}, false}, {[]int{-1}, false}, {[]int{smallest}, false}, {[]int{greatest}, false}, {[]int{1 << 32}, false}, {[]int{256}, false},
		{[]int{0, 1}, true}, {[]int{0, 199}, true}, {[]int{198, 199}, true}, {[]int{0, 0}, false}, {[]int{199, 199}, false}, {[]int{1, 0}, false}, {[]int{199, 0}, false},
		{[]int{199, 200}, false}, {[]int{-1, 0}, false}, {[]int{-2, -1}, false}, {[]int{0, -1}, false}, {[]int{smallest, greatest}, false}, {[]int{200, 201}, false},
		{[]int{1, 2, 3}, true}, {[]int{1, 3, 2}, false}, {[]int{2, 1, 3}, false}, {[]int{1, 1, 3}, false}, {[]int{1, 3, 3}, false}, {[]int{3, 2, 1}, false}, {[]int{1, 3, 1}, false}, {[]int{1, 2, 1}, false},
		{[]int{1, 200, 3}, false}, {[]int{1, -1, 3}, false}, {[]int{5, 6, 7, 6, 8}, false}, {[]int{5, 6, 6, 7, 8}, false}, {[]int{5, 9, 6, 7, 8}, false}, {[]int{0, 1, 2, 3, 4, 5, 6, 200}, false},
	} {
		r := lists(c.units, slices.Repeat([]int{-1}, len(c.units)))
		if dueRight(r) != c.right {
			t.Error("by another hand", r)
		}
		mustBeDue(t, r)
		if rma.Right(r) != c.right {
			t.Error(r)
		}
	}
}

// Wherever in a long list one unit doesn't rise.
func TestEachUnitIsAsked(t *testing.T) {
	for at := range 200 {
		for _, by := range []int{-1, 1, -200, 200, 256, 1 << 32, smallest} {
			r := many(200)
			r.Units[at] += by
			mustBeWrong(t, r)
		}
	}
	for at := range 100 {
		r := many(100)
		for k := range r.Units {
			r.Units[k] *= 2
		}
		r.Units[at]++
		mustBeRight(t, r)
		r.Units[at]++
		mustBeDue(t, r)
	}
}

func TestGrades(t *testing.T) {
	for _, grade := range allNumbers() {
		for at := range 3 {
			grades := []int{-1, 4, 0}
			grades[at] = grade
			r := lists([]int{1, 5, 8}, grades)
			if grade >= -1 && grade <= 4 {
				mustBeRight(t, r)
			} else {
				mustBeWrong(t, r)
			}
		}
	}
	for at := range 200 {
		for _, grade := range []int{-2, 5, 255, 1 << 32, smallest, greatest} {
			r := many(200)
			r.Grades[at] = grade
			mustBeWrong(t, r)
		}
	}
}

// There are as many grades as units.
func TestAsManyGradesAsUnits(t *testing.T) {
	for units := range 12 {
		for grades := range 12 {
			r := lists(many(units).Units, many(grades).Grades)
			if right := mustBeDue(t, r); right != (units == grades && units != 0) {
				t.Error(units, grades, right)
			}
		}
	}
	mustBeWrong(t, lists(many(200).Units, many(199).Grades))
	mustBeWrong(t, lists(many(199).Units, many(200).Grades))
	mustBeWrong(t, lists(many(200).Units, many(201).Grades))
	mustBeWrong(t, lists(many(200).Units, nil))
	mustBeWrong(t, lists(nil, many(1).Grades))
	mustBeWrong(t, lists([]int{}, []int{}))
}

// Numbers aren't held against each other: what is reserved may be a unit of the
// return's, with nothing wanted, and the sums may be any.
func TestNumbersStandAlone(t *testing.T) {
	r := sample()
	for _, unit := range r.Units {
		r.Want, r.Reserved = 0, unit
		mustBeRight(t, r)
	}
	r.Worth, r.Paid, r.Credited, r.Given = 0, richest, richest, richest
	mustBeRight(t, r)
	for state := rma.Open; state <= rma.Cancelled; state++ {
		r.State, r.Grades = state, []int{4, 0, -1, 3}
		mustBeRight(t, r)
	}
}
