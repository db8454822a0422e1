package rma_test

import (
	"bytes"
	"math/rand"
	"slices"
	"testing"

	"recoup/rma"
)

// some is a right return.
func some(r *rand.Rand) rma.RMA {
	var x rma.RMA
	for _, n := range fields(&x) {
		switch r.Intn(6) {
		case 0:
			n.set(n.least)
		case 1:
			n.set(n.most)
		default:
			n.set(n.least + r.Int63n(n.most-n.least+1)>>r.Intn(8))
		}
	}
	x.Credit = r.Intn(2) == 0
	x.Units = r.Perm(200)[:1+r.Intn(200)>>r.Intn(8)]
	slices.Sort(x.Units)
	for range x.Units {
		x.Grades = append(x.Grades, r.Intn(6)-1)
	}
	return x
}

// change changes something of a return, by little or to any other.
func change(r *rand.Rand, x *rma.RMA) {
	l := numbers(x)
	n := l[r.Intn(len(l))]
	switch r.Intn(10) {
	case 0:
		n.set(wrongNumbers()[r.Intn(len(wrongNumbers()))])
	case 1:
		n.set(n.least - 1 + int64(r.Intn(2)))
	case 2:
		n.set(n.most + int64(r.Intn(2)))
	case 3:
		x.Units = x.Units[:len(x.Units)-r.Intn(2)]
		x.Grades = x.Grades[:len(x.Grades)-r.Intn(2)]
	case 4:
		x.Credit = !x.Credit
	default:
		n.set(n.get() + int64(r.Intn(5)-2))
	}
}

func TestAnyReturnsAreRight(t *testing.T) {
	r := rand.New(rand.NewSource(1))
	units := 0
	for range 2000 {
		x := some(r)
		mustBeRight(t, x)
		mustBeGradedAsDue(t, x)
		mustEqual(t, x, rma.Clone(x), true)
		units = max(units, len(x.Units))
	}
	if units < 190 {
		t.Error(units)
	}
}

func TestChangedReturnsAreDue(t *testing.T) {
	r := rand.New(rand.NewSource(2))
	right := 0
	for range 6000 {
		x := some(r)
		for range 1 + r.Intn(2) {
			change(r, &x)
			if len(x.Units) == 0 || len(x.Grades) == 0 {
				break
			}
		}
		if mustBeDue(t, x) {
			right++
		}
		mustPut(t, x)
		mustBeGradedAsDue(t, x)
	}
	if right < 1000 || right > 5000 {
		t.Error(right, "are right")
	}
}

// A unit of the return's, or any other; any grade.
func TestAnyUnitsAreGradedAsDue(t *testing.T) {
	r := rand.New(rand.NewSource(3))
	graded := 0
	for range 1000 {
		x := some(r)
		for range 10 {
			unit, grade := r.Intn(202)-1, r.Intn(7)-1
			if r.Intn(2) == 0 {
				unit = x.Units[r.Intn(len(x.Units))]
			}
			if mustGradeAsDue(t, x, unit, grade) {
				graded++
				x, _ = rma.Grade(x, unit, grade)
			}
			if rma.Has(x, unit) != dueHas(x, unit) {
				t.Error(x, unit)
			}
			mustBeGradedAsDue(t, x)
		}
	}
	if graded < 300 || graded > 5000 {
		t.Error(graded)
	}
}

// A return's bytes, some of them changed, left out, or put in.
func TestChangedBytesAreDue(t *testing.T) {
	r := rand.New(rand.NewSource(4))
	taken := 0
	for range 10000 {
		b := dueBytes(some(r))
		for range 1 + r.Intn(2) {
			at := r.Intn(len(b))
			if r.Intn(2) == 0 {
				at = r.Intn(min(len(b), 16))
			}
			switch r.Intn(8) {
			case 0:
				b = slices.Delete(b, at, min(at+1+r.Intn(30), len(b)))
			case 1:
				b = slices.Insert(b, at, make([]byte, 1+r.Intn(30))...)
			case 2:
				b[at] = byte(r.Intn(256))
			default:
				b[at] += byte(r.Intn(5) - 2)
			}
			b = append(b, 0)[:max(1, len(b))]
		}
		if mustTakeAsDue(t, b) {
			taken++
		}
	}
	if taken < 2000 || taken > 8000 {
		t.Error(taken, "are taken")
	}
}

func TestAnyBytesAreDue(t *testing.T) {
	r := rand.New(rand.NewSource(5))
	taken := 0
	for range 20000 {
		b := make([]byte, r.Intn(600))
		for k := range b {
			b[k] = byte(r.Intn(1 << r.Intn(9)))
		}
		if len(b) > 15 && r.Intn(2) == 0 {
			b[7], b[14] = byte(r.Intn(2)), 0
		}
		if mustTakeAsDue(t, b) {
			taken++
		}
	}
	if taken < 2000 || taken > 18000 {
		t.Error(taken, "are taken")
	}
}

// What was taken of any bytes is put as the same.
func TestWhatIsTakenIsPut(t *testing.T) {
	r := rand.New(rand.NewSource(6))
	for range 3000 {
		b := make([]byte, 47+2*200)
		r.Read(b)
		b[7], b[13], b[14] = byte(r.Intn(2)), byte(r.Intn(201)), 0
		x, size, _ := dueTake(b)
		mustTake(t, b[:size], x)
		if own, e := put(x); e != 0 || !bytes.Equal(own, b[:size]) {
			t.Fatal(b[:size], own, e)
		}
	}
}

func TestAnyReturnsAreAlikeAsDue(t *testing.T) {
	r := rand.New(rand.NewSource(7))
	alike := 0
	for range 3000 {
		a, b := some(r), some(r)
		mustEqual(t, a, b, dueEqual(a, b))
		b = rma.Clone(a)
		if r.Intn(2) == 0 {
			change(r, &b)
		}
		mustEqual(t, a, b, dueEqual(a, b))
		if dueEqual(a, b) {
			alike++
		}
	}
	if alike < 1000 || alike > 2500 {
		t.Error(alike)
	}
}
