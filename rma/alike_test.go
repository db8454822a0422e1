package rma_test

import (
	"slices"
	"testing"

	"recoup/rma"
)

func TestAReturnIsAlikeItself(t *testing.T) {
	for _, r := range append(someReturns(), wrongReturns()...) {
		mustEqual(t, r, r, true)
		mustEqual(t, r, rma.Clone(r), true)
	}
}

func TestOtherReturnsAreUnlike(t *testing.T) {
	l := append(someReturns(), wrongReturns()...)
	for n, a := range l {
		for m, b := range l {
			mustEqual(t, a, b, n == m)
		}
	}
}

func TestNoListIsAlikeAnEmptyOne(t *testing.T) {
	mustEqual(t, rma.RMA{}, rma.RMA{Units: []int{}, Grades: []int{}}, true)
	mustEqual(t, rma.RMA{Units: []int{}}, rma.RMA{Grades: []int{}}, true)
	mustEqual(t, rma.RMA{}, rma.RMA{Units: []int{0}}, false)
	mustEqual(t, rma.RMA{}, rma.RMA{Grades: []int{0}}, false)
	mustEqual(t, rma.RMA{Units: []int{0}}, rma.RMA{Grades: []int{0}}, false)
}

func TestEachNumberMakesUnlike(t *testing.T) {
	r := sample()
	for k, n := range numbers(&r) {
		for _, by := range []int64{1, -1, 256, 1 << 16, 1 << 32, 1 << 62, smallest} {
			other := with(int64(k), n.get()+by)
			mustEqual(t, r, other, false)
			mustEqual(t, other, with(int64(k), n.get()+by), true)
		}
	}
	other := sample()
	other.Credit = false
	mustEqual(t, r, other, false)
}

// What one number has more another one hasn't less, for all that.
func TestEachTwoNumbersMakeUnlike(t *testing.T) {
	r := sample()
	l := numbers(&r)
	for k, n := range l {
		for j, m := range l {
			if j != k {
				mustEqual(t, r, with(int64(k), n.get()+1, int64(j), m.get()-1), false)
				mustEqual(t, r, with(int64(k), m.get(), int64(j), n.get()), m.get() == n.get())
			}
		}
	}
}

func TestOtherListsAreUnlike(t *testing.T) {
	for _, turn := range []func(r *rma.RMA){
		func(r *rma.RMA) { slices.Reverse(r.Units) },
		func(r *rma.RMA) { r.Grades[0], r.Grades[1] = r.Grades[1], r.Grades[0] },
		func(r *rma.RMA) { r.Units = r.Units[:3] },
		func(r *rma.RMA) { r.Units = r.Units[1:] },
		func(r *rma.RMA) { r.Units = nil },
		func(r *rma.RMA) { r.Units = append(r.Units, 0) },
		func(r *rma.RMA) { r.Grades = r.Grades[:3] },
		func(r *rma.RMA) { r.Grades = r.Grades[1:] },
		func(r *rma.RMA) { r.Grades = nil },
		func(r *rma.RMA) { r.Grades = append(r.Grades, 0) },
		func(r *rma.RMA) { r.Units, r.Grades = r.Grades, r.Units },
		func(r *rma.RMA) { r.Units, r.Grades = r.Units[:3], r.Grades[:3] },
		func(r *rma.RMA) { r.Units, r.Grades = nil, nil },
		func(r *rma.RMA) { r.Units[199%len(r.Units)]++ },
	} {
		r := sample()
		turn(&r)
		mustEqual(t, r, sample(), false)
		mustEqual(t, r, rma.Clone(r), true)
	}
	for at := range 200 {
		r := many(200)
		r.Units[at]++
		mustEqual(t, r, many(200), false)
		r = many(200)
		r.Grades[at]++
		mustEqual(t, r, many(200), false)
	}
}

func TestACloneHasAllThatThereWas(t *testing.T) {
	for _, r := range append(someReturns(), wrongReturns()...) {
		if got := rma.Clone(r); !dueEqual(got, r) {
			t.Error(r, got)
		}
		mustBeDue(t, rma.Clone(r))
		mustBeDue(t, rma.Clone(rma.Clone(r)))
	}
}
