package rma_test

import (
	"bytes"
	"encoding/binary"
	"slices"
	"testing"

	"recoup/codec"
	"recoup/rma"
)

// dueRight tells by another hand whether a return is right.
func dueRight(r rma.RMA) bool {
	for _, n := range fields(&r) {
		if v := n.get(); v < n.least || v > n.most {
			return false
		}
	}
	for k, unit := range r.Units {
		if unit < 0 || unit > 199 || k > 0 && unit <= r.Units[k-1] {
			return false
		}
	}
	for _, grade := range r.Grades {
		if !slices.Contains([]int{-1, 0, 1, 2, 3, 4}, grade) {
			return false
		}
	}
	return len(r.Units) != 0 && len(r.Units) == len(r.Grades)
}

// flat is all that a return has, as one list of numbers.
func flat(r rma.RMA) []int64 {
	var l []int64
	for _, n := range fields(&r) {
		l = append(l, n.get())
	}
	if r.Credit {
		l = append(l, 1)
	} else {
		l = append(l, 0)
	}
	for _, list := range [][]int{r.Units, r.Grades} {
		l = append(l, int64(len(list)))
		for _, v := range list {
			l = append(l, int64(v))
		}
	}
	return l
}

func dueEqual(a, b rma.RMA) bool { return slices.Equal(flat(a), flat(b)) }

// isNone tells whether a return is a zero one.
func isNone(r rma.RMA) bool { return dueEqual(r, rma.RMA{}) }

// dueBytes are a return's bytes; of a number that is too great they are too few.
func dueBytes(r rma.RMA) []byte {
	b := []byte{byte(r.Number), byte(r.Order), byte(r.Reason)}
	b = binary.LittleEndian.AppendUint16(b, uint16(r.Want))
	b = binary.LittleEndian.AppendUint16(b, uint16(r.Reserved+1))
	if r.Credit {
		b = append(b, 1, byte(r.State))
	} else {
		b = append(b, 0, byte(r.State))
	}
	b = binary.LittleEndian.AppendUint32(b, uint32(r.Day))
	b = binary.LittleEndian.AppendUint16(b, uint16(len(r.Units)))
	for _, unit := range r.Units {
		b = append(b, byte(unit))
	}
	for _, grade := range r.Grades {
		b = append(b, byte(grade+1))
	}
	for _, sum := range []int64{r.Worth, r.Paid, r.Credited, r.Given} {
		b = binary.LittleEndian.AppendUint64(b, uint64(sum))
	}
	return b
}

// goesIn tells whether each number of a return goes in so many bytes.
func goesIn(r rma.RMA) bool {
	for _, c := range []struct{ v, most int }{
		{r.Number, 1<<8 - 1}, {r.Order, 1<<8 - 1}, {r.Reason, 1<<8 - 1}, {r.Want, 1<<16 - 1}, {r.State, 1<<8 - 1}, {r.Day, 1<<32 - 1}, {len(r.Units), 1<<16 - 1},
	} {
		if c.v < 0 || c.v > c.most {
			return false
		}
	}
	for _, unit := range r.Units {
		if unit < 0 || unit > 255 {
			return false
		}
	}
	for _, grade := range r.Grades {
		if grade < -1 || grade > 254 {
			return false
		}
	}
	return r.Reserved >= -1 && r.Reserved <= 1<<16-2
}

// dueTake is the return that stands at the beginning of bytes, and how many
// bytes it has.
func dueTake(b []byte) (r rma.RMA, size int, ok bool) {
	if len(b) < 15 || b[7] > 1 {
		return r, 0, false
	}
	n := int(binary.LittleEndian.Uint16(b[13:]))
	if n > 200 || len(b) < 15+2*n+32 {
		return r, 0, false
	}
	r = rma.RMA{Number: int(b[0]), Order: int(b[1]), Reason: int(b[2]), Want: int(b[3]) + int(b[4])<<8, Reserved: int(b[5]) + int(b[6])<<8 - 1, Credit: b[7] == 1, State: int(b[8])}
	r.Day = int(binary.LittleEndian.Uint32(b[9:]))
	for k := range n {
		r.Units, r.Grades = append(r.Units, int(b[15+k])), append(r.Grades, int(b[15+n+k])-1)
	}
	for k, v := range []*int64{&r.Worth, &r.Paid, &r.Credited, &r.Given} {
		*v = int64(binary.LittleEndian.Uint64(b[15+2*n+8*k:]))
	}
	return r, 15 + 2*n + 32, true
}

// mustBeRight checks all that holds of a right return: it is one, has these
// bytes, and they are taken as it.
func mustBeRight(t *testing.T, r rma.RMA) {
	t.Helper()
	if !rma.Right(r) {
		t.Errorf("%v isn't right", r)
	}
	mustPut(t, r)
	mustTake(t, dueBytes(r), r)
	mustGradeAsDue(t, r, 0, 0)
	mustGradeAsDue(t, r, r.Units[len(r.Units)-1], 4)
}

// mustBeWrong checks that a return isn't right, and has no unit graded.
func mustBeWrong(t *testing.T, r rma.RMA) {
	t.Helper()
	if rma.Right(r) {
		t.Errorf("%v is right", r)
	}
	mustGradeAsDue(t, r, 0, 0)
	mustGradeAsDue(t, r, 4, 2)
}

// mustBeDue checks a return, be it right or not.
func mustBeDue(t *testing.T, r rma.RMA) (right bool) {
	t.Helper()
	if right = dueRight(r); right {
		mustBeRight(t, r)
	} else {
		mustBeWrong(t, r)
	}
	return right
}

// dueHas is where the first such unit is.
func dueHas(r rma.RMA, unit int) int {
	for k := range r.Units {
		if r.Units[k] == unit {
			return k
		}
	}
	return -1
}

// dueGrade is the return with a grade, or an error.
func dueGrade(r rma.RMA, unit, grade int) (rma.RMA, int) {
	if !dueRight(r) || grade < 0 || grade > 4 {
		return rma.RMA{}, 1
	}
	at := dueHas(r, unit)
	switch {
	case at == -1:
		return rma.RMA{}, 7
	case r.Grades[at] >= 0:
		return rma.RMA{}, 8
	}
	r.Grades = append([]int(nil), r.Grades...)
	r.Grades[at] = grade
	return r, 0
}

// mustGradeAsDue checks what grading a unit answers, and tells whether it was
// graded.
func mustGradeAsDue(t *testing.T, r rma.RMA, unit, grade int) bool {
	t.Helper()
	want, due := dueGrade(r, unit, grade)
	got, e := rma.Grade(r, unit, grade)
	if !dueEqual(got, want) || int(e) != due {
		t.Errorf("Grade(%v, %d, %d): %v, %d; want %v, %d", r, unit, grade, got, e, want, due)
	}
	return due == 0
}

// mustBeGradedAsDue checks whether all is graded.
func mustBeGradedAsDue(t *testing.T, r rma.RMA) bool {
	t.Helper()
	without := 0
	for _, grade := range r.Grades {
		if grade == -1 {
			without++
		}
	}
	want := without == 0 && len(r.Grades) == len(r.Units)
	if rma.Graded(r) != want {
		t.Errorf("Graded(%v): %v", r, !want)
	}
	return want
}

// put is a return's bytes.
func put(r rma.RMA) ([]byte, int) {
	var o codec.Out
	rma.Put(&o, r)
	b, e := o.End()
	return b, int(e)
}

// mustPut checks what is put of a return, be it right or not.
func mustPut(t *testing.T, r rma.RMA) (ok bool) {
	t.Helper()
	b, e := put(r)
	if ok = goesIn(r); !ok {
		if len(b) != 0 || e != 2 {
			t.Errorf("of %v: %v, %d", r, b, e)
		}
		return ok
	}
	if want := dueBytes(r); !bytes.Equal(b, want) || e != 0 {
		t.Errorf("of %v: %v, %d; want %v", r, b, e, want)
	}
	return ok
}

// mustTake checks that bytes are just those of a return.
func mustTake(t *testing.T, b []byte, want rma.RMA) {
	t.Helper()
	i := codec.NewIn(b)
	if got := rma.Take(i); !dueEqual(got, want) || !i.Done() {
		t.Errorf("of %v: %v, %v; want %v", b, got, i.Done(), want)
	}
}

// mustNotTake checks that bytes are bad.
func mustNotTake(t *testing.T, b []byte) {
	t.Helper()
	i := codec.NewIn(b)
	if got := rma.Take(i); !isNone(got) || !i.Bad() {
		t.Errorf("of %v: %v, %v", b, got, i.Bad())
	}
}

// mustTakeAsDue checks bytes, whatever they are, and what is left behind.
func mustTakeAsDue(t *testing.T, b []byte) (ok bool) {
	t.Helper()
	want, size, ok := dueTake(b)
	if !ok {
		mustNotTake(t, b)
		return ok
	}
	i := codec.NewIn(b)
	if got := rma.Take(i); !dueEqual(got, want) || i.Bad() || i.Left() != len(b)-size {
		t.Errorf("of %v: %v, %v, %d left; want %v", b, got, i.Bad(), i.Left(), want)
	}
	return ok
}

// mustEqual checks it both ways round.
func mustEqual(t *testing.T, a, b rma.RMA, want bool) {
	t.Helper()
	if rma.Equal(a, b) != want || rma.Equal(b, a) != want {
		t.Error(a, b, !want)
	}
}
