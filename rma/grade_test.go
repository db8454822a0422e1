package rma_test

import (
	"slices"
	"testing"

	"recoup/api"
	"recoup/rma"
)

// Each unit that has no grade, with each grade there is.
func TestEachUnitIsGraded(t *testing.T) {
	for _, r := range someReturns() {
		for k, unit := range r.Units {
			for grade := range 5 {
				got, e := rma.Grade(r, unit, grade)
				if r.Grades[k] != -1 {
					if e != api.ErrState || !isNone(got) {
						t.Error(r, unit, grade, got, e)
					}
					continue
				}
				if e != api.OK || got.Grades[k] != grade || !rma.Right(got) {
					t.Error(r, unit, grade, got, e)
				}
				got.Grades[k] = -1
				if !dueEqual(got, r) {
					t.Error(r, "is now", got)
				}
			}
		}
	}
}

func TestGradeByHand(t *testing.T) {
	r := rma.RMA{Number: 1, Reserved: -1, State: rma.Docked, Units: []int{3, 8}, Grades: []int{-1, -1}, Worth: 50}
	r, e := rma.Grade(r, 8, 0)
	if e != api.OK || !slices.Equal(r.Grades, []int{-1, 0}) || !slices.Equal(r.Units, []int{3, 8}) || r.Worth != 50 || rma.Graded(r) {
		t.Error(r, e)
	}
	if x, e := rma.Grade(r, 8, 1); e != api.ErrState || !isNone(x) {
		t.Error(x, e)
	}
	if x, e := rma.Grade(r, 4, 1); e != api.ErrNone || !isNone(x) {
		t.Error(x, e)
	}
	if x, e := rma.Grade(r, 3, 5); e != api.ErrArg || !isNone(x) {
		t.Error(x, e)
	}
	r, e = rma.Grade(r, 3, rma.LostGrade)
	if e != api.OK || !slices.Equal(r.Grades, []int{4, 0}) || !rma.Graded(r) || r.State != rma.Docked {
		t.Error(r, e)
	}
}

// Whatever is asked, of whatever return.
func TestAnyGradeIsDue(t *testing.T) {
	graded := 0
	for _, r := range append(someReturns(), wrongReturns()...) {
		for _, unit := range allNumbers() {
			for _, grade := range []int{-1, 0, 1, 2, 3, 4, 5, 6, -2, 255, 256, 260, 1 << 32, 1<<32 + 4, greatest, smallest, smallest + 4} {
				if mustGradeAsDue(t, r, unit, grade) {
					graded++
				}
			}
		}
	}
	if graded < 100 {
		t.Error(graded)
	}
}

// A wrong grade is told ahead of a unit that isn't there, and that one ahead of
// one that has a grade.
func TestWhichErrorComesFirst(t *testing.T) {
	r, wrong := sample(), sample()
	wrong.Day = -1
	for _, c := range []struct {
		r           rma.RMA
		unit, grade int
		want        api.Errno
	}{
		{r, 4, 5, api.ErrArg}, {r, 4, -1, api.ErrArg}, {r, 9, 5, api.ErrArg}, {r, 9, -1, api.ErrArg}, {r, 5, 5, api.ErrArg}, {r, 5, -1, api.ErrArg}, {r, -1, 5, api.ErrArg},
		{r, 5, 0, api.ErrNone}, {r, 5, 4, api.ErrNone}, {r, -1, 2, api.ErrNone}, {r, 0, 2, api.ErrNone}, {r, 200, 2, api.ErrNone}, {r, 4 + 256, 2, api.ErrNone}, {r, 4 + 1<<32, 2, api.ErrNone},
		{r, 9, 0, api.ErrState}, {r, 9, 2, api.ErrState}, {r, 9, 4, api.ErrState}, {r, 10, 0, api.ErrState},
		{wrong, 4, 0, api.ErrArg}, {wrong, 9, 0, api.ErrArg}, {wrong, 5, 0, api.ErrArg}, {wrong, 5, 5, api.ErrArg},
	} {
		if got, e := rma.Grade(c.r, c.unit, c.grade); e != c.want || !isNone(got) {
			t.Error(c, got, e)
		}
	}
}

// Nothing of a return that isn't right is graded, be its units and grades right
// or not.
func TestNothingOfAWrongReturnIsGraded(t *testing.T) {
	r := sample()
	for k := range numbers(&r) {
		for _, v := range wrongNumbers() {
			wrong := with(int64(k), v)
			for _, unit := range append(wrong.Units, 4, 9, 10, 77) {
				for grade := range 5 {
					if got, e := rma.Grade(wrong, unit, grade); e != api.ErrArg || !isNone(got) {
						t.Fatal(wrong, unit, grade, got, e)
					}
				}
			}
		}
	}
}

// The state isn't asked: layer 14's steps are Next's.
func TestEachStateIsGraded(t *testing.T) {
	for state := rma.Open; state <= rma.Cancelled; state++ {
		r := sample()
		r.State = state
		want := sample()
		want.State, want.Grades[3] = state, 3
		if got, e := rma.Grade(r, 77, 3); e != api.OK || !dueEqual(got, want) {
			t.Error(state, got, e)
		}
	}
}

// One by one, in any order; then all is graded.
func TestUntilAllIsGraded(t *testing.T) {
	for _, n := range []int{1, 2, 7, 200} {
		for _, step := range []int{1, 3, 11, 199} {
			r := many(n)
			for k := range n {
				r.Grades[k] = -1
			}
			for k := range n {
				if rma.Graded(r) {
					t.Fatal(n, k, "is graded", r)
				}
				unit := step * k % n
				if n%step == 0 {
					unit = k
				}
				for rma.Has(r, unit) >= 0 && r.Grades[unit] != -1 {
					unit = (unit + 1) % n
				}
				next, e := rma.Grade(r, unit, k%5)
				if e != api.OK || next.Grades[unit] != k%5 {
					t.Fatal(n, unit, next, e)
				}
				mustGradeAsDue(t, next, unit, 0)
				r = next
			}
			if !rma.Graded(r) {
				t.Error("isn't graded", r)
			}
		}
	}
}

func TestGraded(t *testing.T) {
	graded := 0
	for _, r := range append(someReturns(), wrongReturns()...) {
		if mustBeGradedAsDue(t, r) {
			graded++
		}
	}
	if graded < 5 {
		t.Error(graded)
	}
	for _, c := range []struct {
		units, grades []int
		want          bool
	}{
		{[]int{1}, []int{0}, true}, {[]int{1}, []int{4}, true}, {[]int{1}, []int{-1}, false}, {[]int{1, 2}, []int{0, 3}, true},
		{[]int{1, 2}, []int{-1, 0}, false}, {[]int{1, 2}, []int{0, -1}, false}, {[]int{1, 2, 3}, []int{0, -1, 0}, false}, {[]int{1, 2}, []int{-1, -1}, false},
		{[]int{1, 2}, []int{0}, false}, {[]int{1, 2}, []int{0, 0, 0}, false}, {[]int{1}, nil, false}, {nil, []int{1}, false}, {nil, []int{-1}, false}, {[]int{1, 2}, []int{0, 0, -1}, false},
		// Whether the return is right isn't asked.
		{nil, nil, true}, {[]int{}, nil, true}, {nil, []int{}, true}, {[]int{1}, []int{5}, true}, {[]int{1}, []int{-2}, true}, {[]int{1}, []int{greatest}, true}, {[]int{1}, []int{smallest}, true}, {[]int{-1}, []int{0}, true},
	} {
		for _, r := range []rma.RMA{lists(c.units, c.grades), {Units: c.units, Grades: c.grades}} {
			if mustBeGradedAsDue(t, r); rma.Graded(r) != c.want {
				t.Error(r)
			}
		}
	}
	for at := range 200 {
		r := many(200)
		r.Grades = make([]int, 200)
		mustBeGradedAsDue(t, r)
		r.Grades[at] = -1
		if mustBeGradedAsDue(t, r) {
			t.Error(r)
		}
	}
}

func TestHas(t *testing.T) {
	for _, r := range append(someReturns(), wrongReturns()...) {
		for _, unit := range append(allNumbers(), r.Units...) {
			if got, want := rma.Has(r, unit), dueHas(r, unit); got != want {
				t.Errorf("Has(%v, %d): %d; want %d", r, unit, got, want)
			}
		}
	}
	for k := range 200 {
		if n := rma.Has(many(200), k); n != k {
			t.Error(k, n)
		}
	}
	for _, c := range []struct {
		units      []int
		unit, want int
	}{
		{[]int{4, 9, 77}, 4, 0}, {[]int{4, 9, 77}, 9, 1}, {[]int{4, 9, 77}, 77, 2}, {[]int{4, 9, 77}, 5, -1}, {[]int{4, 9, 77}, 0, -1}, {[]int{4, 9, 77}, -1, -1}, {[]int{4, 9, 77}, 78, -1}, {[]int{4, 9, 77}, 3, -1},
		{nil, 0, -1}, {nil, -1, -1}, {[]int{0}, 0, 0}, {[]int{0}, 256, -1}, {[]int{0}, 1 << 32, -1},
		// Units that don't rise, of a return that isn't right.
		{[]int{9, 4}, 4, 1}, {[]int{9, 4}, 9, 0}, {[]int{9, 9}, 9, 0}, {[]int{1, 9, 9}, 9, 1}, {[]int{-1, 300}, -1, 0}, {[]int{-1, 300}, 300, 1}, {[]int{3, greatest, smallest}, smallest, 2},
	} {
		if n := rma.Has(lists(c.units, nil), c.unit); n != c.want {
			t.Error(c, n)
		}
	}
}
