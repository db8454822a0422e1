package rma_test

import (
	"bytes"
	"reflect"
	"slices"
	"sync"
	"testing"

	"recoup/codec"
	"recoup/rma"
)

// room is a list with spare room behind it, full of one thing more.
func room(l []int, more int) []int {
	return append(slices.Clone(l), more, more, more)[:len(l)]
}

// roomy is a return both of whose lists have spare room behind them: if it were
// read, the return would be another one.
func roomy(r rma.RMA) rma.RMA {
	r.Units, r.Grades = room(r.Units, 1), room(r.Grades, -1)
	return r
}

// whole is a return with its spare room, as new memory.
func whole(r rma.RMA) rma.RMA {
	r.Units, r.Grades = slices.Clone(r.Units[:cap(r.Units)]), slices.Clone(r.Grades[:cap(r.Grades)])
	return r
}

// fill overwrites a list and its spare room.
func fill(l []int, with int) {
	l = l[:cap(l)]
	for k := range l {
		l[k] = with
	}
}

func fillBoth(r rma.RMA) {
	fill(r.Units, -77)
	fill(r.Grades, 77)
}

func TestAReturnIsLeftAsItIs(t *testing.T) {
	for _, plain := range append(someReturns(), wrongReturns()...) {
		r := roomy(plain)
		before := whole(r)
		rma.Right(r)
		rma.Done(r)
		rma.Graded(r)
		rma.Equal(r, plain)
		rma.Equal(plain, r)
		put(r)
		fillBoth(rma.Clone(r))
		for _, unit := range append(plain.Units, -1, 300) {
			rma.Has(r, unit)
			for grade := range 6 {
				graded, _ := rma.Grade(r, unit, grade)
				fillBoth(graded)
			}
		}
		if !dueEqual(whole(r), before) {
			t.Error(before, "is now", whole(r))
		}
	}
}

func TestSpareRoomIsNotRead(t *testing.T) {
	for _, r := range append(someReturns(), wrongReturns()...) {
		mustBeDue(t, roomy(r))
		mustEqual(t, roomy(r), r, true)
		mustEqual(t, roomy(r), rma.Clone(roomy(r)), true)
		mustBeGradedAsDue(t, roomy(r))
		if rma.Graded(roomy(r)) != rma.Graded(r) || rma.Has(roomy(r), 1) != dueHas(r, 1) {
			t.Error(r)
		}
		mustPut(t, roomy(r))
	}
}

func TestACloneIsNewMemory(t *testing.T) {
	for _, r := range append(someReturns(), wrongReturns()...) {
		own := roomy(r)
		first, second := rma.Clone(own), rma.Clone(own)
		fillBoth(second)
		if !dueEqual(first, r) || !dueEqual(own, r) {
			t.Error(r, first, own)
		}
		fillBoth(own)
		if !dueEqual(first, r) {
			t.Error(first, "was", r)
		}
	}
}

// The graded return has nothing in common with the one that was, nor with
// another one.
func TestAGradedReturnIsNewMemory(t *testing.T) {
	for _, r := range someReturns() {
		for k, unit := range r.Units {
			if r.Grades[k] != -1 {
				continue
			}
			own := roomy(r)
			want, _ := dueGrade(r, unit, 3)
			first, _ := rma.Grade(own, unit, 3)
			second, _ := rma.Grade(own, unit, 3)
			fillBoth(second)
			if !dueEqual(first, want) || !dueEqual(own, r) {
				t.Error(want, first, own)
			}
			fillBoth(own)
			if !dueEqual(first, want) {
				t.Error(first, "was", want)
			}
		}
	}
}

// Both lists of one answer are memory of their own, spare room too.
func TestBothListsAreNewMemory(t *testing.T) {
	for _, r := range someReturns() {
		same := r
		same.Grades = same.Units
		graded, _ := rma.Grade(roomy(r), r.Units[0], 0)
		for _, a := range []rma.RMA{rma.Clone(r), rma.Clone(roomy(r)), rma.Clone(same), graded, rma.Take(codec.NewIn(dueBytes(r)))} {
			units, grades := slices.Clone(a.Units), slices.Clone(a.Grades)
			fill(a.Units, -77)
			if !slices.Equal(a.Grades, grades) {
				t.Error(grades, "are now", a.Grades)
			}
			copy(a.Units, units)
			fill(a.Grades, 77)
			if !slices.Equal(a.Units, units) {
				t.Error(units, "are now", a.Units)
			}
		}
	}
}

// What was put doesn't change with the return.
func TestWhatWasPutIsKept(t *testing.T) {
	for _, r := range someReturns() {
		var o codec.Out
		own := roomy(r)
		rma.Put(&o, own)
		fillBoth(own)
		if b, e := o.End(); e != 0 || !bytes.Equal(b, dueBytes(r)) {
			t.Error(b, e)
		}
	}
}

func TestATakenReturnIsNewMemory(t *testing.T) {
	for _, r := range someReturns() {
		b := dueBytes(r)
		i := codec.NewIn(append(b, b...))
		first := rma.Take(i)
		second := rma.Take(i)
		fillBoth(second)
		for k := range b {
			b[k] = 255
		}
		if !dueEqual(first, r) {
			t.Error(first, "was", r)
		}
	}
}

// All of a return is asked, copied and written: it has no field that these
// tests don't know.
func TestAReturnHasTheseFields(t *testing.T) {
	r := sample()
	if of := reflect.TypeFor[rma.RMA](); of.NumField() != len(fields(&r))+3 {
		t.Error(of.NumField())
	}
}

// Nothing is kept from call to call: what was refused or told before doesn't
// matter, nor who else asks.
func TestAnswersHangOnTheArgumentsAlone(t *testing.T) {
	var all sync.WaitGroup
	right, wrong := someReturns(), wrongReturns()
	cut := dueBytes(sample())[:30]
	for range 4 {
		all.Go(func() {
			for range 10 {
				for _, r := range right {
					mustBeRight(t, r)
					mustNotTake(t, cut)
					mustEqual(t, r, rma.Clone(r), true)
				}
				for _, r := range wrong {
					mustBeWrong(t, r)
					mustBeGradedAsDue(t, r)
				}
			}
		})
	}
	all.Wait()
}
