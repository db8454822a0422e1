package query_test

import (
	"reflect"
	"slices"
	"sync"
	"testing"

	"recoup/api"
	"recoup/query"
	"recoup/saga"
)

// askAll asks for all that there is to be told.
func askAll(s *saga.Saga) {
	for n := range 20 {
		query.Of(s, n)
		query.Line(s, n)
		query.UnitOf(s, n)
		query.May(s, n, true)
		query.May(s, n, false)
	}
	query.Counts(s)
	query.Open(s)
}

// Who asks changes nothing: a saga has what it had, and goes on as it did.
func TestASagaIsLeftAsItIs(t *testing.T) {
	for _, s := range someSagas(t) {
		before, other := s.Parts(), s.Clone()
		for range 2 {
			askAll(s)
			if got := s.Parts(); !reflect.DeepEqual(got, before) {
				t.Fatalf("%+v; was %+v", got, before)
			}
		}
		_, said, e := s.Take(tick(1))
		_, want, f := other.Take(tick(1))
		if e != f || !slices.Equal(said, want) || !reflect.DeepEqual(s.Parts(), other.Parts()) {
			t.Fatal(said, e, want, f)
		}
		mustTell(t, s)
	}
}

// One list of numbers is no other's, not even its spare room.
func TestOpenIsNewMemory(t *testing.T) {
	for _, s := range someSagas(t) {
		first, second := query.Open(s), query.Open(s)
		want := slices.Clone(first)
		l := second[:cap(second)]
		for k := range l {
			l[k] = 77
		}
		if !slices.Equal(first, want) || !slices.Equal(query.Open(s), want) {
			t.Error(first, "was", want)
		}
		mustTell(t, s)
	}
}

// What was told stays, whatever is taken afterwards.
func TestWhatWasToldStays(t *testing.T) {
	s := busy(t)
	open, counts := query.Open(s), query.Counts(s)
	status, _ := query.Of(s, 3)
	unit, _ := query.UnitOf(s, 2)
	line, _ := query.Line(s, 3)
	take(t, s, tick(30))
	if !slices.Equal(open, []int{1, 2, 3, 4, 5}) || counts[1] != 1 || status.State != 3 || unit.Place != 1 || line[:17] != "return 3: moving " {
		t.Error(open, counts, status, unit, line)
	}
	mustTell(t, s)
}

// Nothing is kept from call to call, and who else asks doesn't matter.
func TestAnswersHangOnTheArgumentsAlone(t *testing.T) {
	var all sync.WaitGroup
	l := someSagas(t)
	for range 4 {
		all.Go(func() {
			for k := range 2 * len(l) {
				s := l[k*5%len(l)]
				p := s.Parts()
				query.Of(nil, 1)
				for n := range 12 {
					mustAnswer(t, s, p, n)
				}
			}
		})
	}
	all.Wait()
}

// mustAnswer checks what is told of a return and a unit of a number; it may be
// called by several at once.
func mustAnswer(t *testing.T, s *saga.Saga, p saga.Parts, n int) {
	status, e := dueStatus(p, n)
	if got, f := query.Of(s, n); got != status || e != f {
		t.Error(got, f)
	}
	line, e := dueLine(p, n)
	if got, f := query.Line(s, n); got != line || e != f {
		t.Error(got, f)
	}
	unit, e := dueUnit(p, n)
	if got, f := query.UnitOf(s, n); got != unit || e != f {
		t.Error(got, f)
	}
	if query.May(s, n, true) != dueMay(p, n, true) || query.May(nil, n, true) != api.ErrArg {
		t.Error(n)
	}
}
