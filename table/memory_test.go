package table_test

import (
	"bytes"
	"slices"
	"sync"
	"testing"

	"recoup/api"
	"recoup/table"
)

// fill overwrites a list and its spare room.
func fill[T any](l []T, with T) {
	l = l[:cap(l)]
	for k := range l {
		l[k] = with
	}
}

// roomy is a list with spare room behind it, and all of that memory: the room
// is full of one thing more.
func roomy[T any](l []T, more T) (part, all []T) {
	all = append(slices.Clone(l), more, more, more)
	return all[:len(l)], all
}

func junk() api.Policy { return with(sample(), 0, 77) }

func TestPoliciesAreLeftAsTheyAre(t *testing.T) {
	for _, l := range append(someTables(), times(17), alone(with(sample(), 3, -1))) {
		part, all := roomy(l, sample())
		before := slices.Clone(all)
		table.Right(part)
		b, _ := table.Encode(part)
		fill(b, 'X')
		table.Equal(part, part)
		table.Equal(part, times(3))
		table.Of(part, 0)
		table.Of(part, len(l))
		if !slices.Equal(all, before) {
			t.Error(before, "are now", all)
		}
	}
}

func TestBytesAreLeftAsTheyAre(t *testing.T) {
	for _, l := range someTables() {
		whole := dueBytes(l)
		for _, b := range [][]byte{whole, whole[:len(whole)-1], append(whole, 0), {}, {255, 255}} {
			part, all := roomy(b, 1)
			before := bytes.Clone(all)
			got, _ := table.Decode(part)
			fill(got, junk())
			if !bytes.Equal(all, before) {
				t.Error(before, "are now", all)
			}
		}
	}
}

func TestSpareRoomIsNotRead(t *testing.T) {
	for _, l := range someTables() {
		part, _ := roomy(l, with(sample(), 0, -1))
		mustBeRight(t, part)
		mustNotBeOf(t, part, len(l))
		mustEqual(t, part, slices.Clone(l), true)
		b, _ := roomy(dueBytes(l), 1)
		mustDecode(t, b, l)
	}
	whole := dueBytes(times(2))
	for n := range whole {
		mustNotDecode(t, whole[:n])
	}
	mustDecode(t, append(whole, 1, 2, 3)[:len(whole)], times(2))
}

func TestBytesAreNewMemory(t *testing.T) {
	for _, l := range someTables() {
		own := slices.Clone(l)
		first, _ := table.Encode(own)
		second, _ := table.Encode(own)
		fill(own, junk())
		fill(second, 'X')
		if !bytes.Equal(first, dueBytes(l)) {
			t.Error(l, first)
		}
		mustBeRight(t, l)
	}
}

func TestTablesAreNewMemory(t *testing.T) {
	for _, l := range someTables() {
		b := dueBytes(l)
		first, _ := table.Decode(b)
		second, _ := table.Decode(b)
		fill(b, 255)
		fill(second, junk())
		if !slices.Equal(first, l) {
			t.Error(first, "was", l)
		}
		mustDecode(t, dueBytes(l), l)
	}
}

func TestAPolicyThatIsToldIsACopy(t *testing.T) {
	l := times(3)
	p, _ := table.Of(l, 1)
	fill(l, junk())
	if p != times(3)[1] {
		t.Error(p)
	}
	p.Fee[0], p.Grades[0].Share = 9, 9
	if q, _ := table.Of(l, 1); q != junk() {
		t.Error(q)
	}
}

// Nothing is kept from call to call: what was refused or told before doesn't
// matter, nor who else asks.
func TestAnswersHangOnTheArgumentsAlone(t *testing.T) {
	var all sync.WaitGroup
	tables, wrong := someTables(), []byte{1, 0, 2}
	for range 4 {
		all.Go(func() {
			for range 100 {
				for _, l := range tables {
					mustBeRight(t, l)
					mustNotDecode(t, wrong)
					mustNotBeOf(t, l, -1)
					mustEqual(t, l, l, true)
				}
			}
		})
	}
	all.Wait()
}
