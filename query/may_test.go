package query_test

import (
	"testing"

	"recoup/api"
	"recoup/command"
	"recoup/query"
	"recoup/saga"
)

// mustMay checks a unit for which nothing, and something else is wanted.
func mustMay(t *testing.T, s *saga.Saga, unit int, want, wanting api.Errno) {
	t.Helper()
	if e, f := query.May(s, unit, false), query.May(s, unit, true); e != want || f != wanting {
		t.Errorf("May(%d) on day %d: %d, and %d; want %d, and %d", unit, s.Now(), e, f, want, wanting)
	}
}

// mustMayAs checks units from the first one on, for which nothing is wanted.
func mustMayAs(t *testing.T, s *saga.Saga, want ...api.Errno) {
	t.Helper()
	for unit, e := range want {
		if got := query.May(s, unit, false); got != e {
			t.Errorf("May(%d): %d; want %d", unit, got, e)
		}
	}
}

func TestMayOfEachUnit(t *testing.T) {
	s := busy(t)
	mustMayAs(t, s,
		api.ErrTaken, api.ErrTaken, api.ErrTaken, api.ErrTaken, api.ErrTaken, api.ErrTaken, api.ErrTaken, api.OK,
		api.ErrFinal, api.ErrFinal, api.OK,
		api.ErrWindow,
		api.ErrTaken, api.ErrTaken, api.ErrTaken, api.ErrNone)
	mustMay(t, s, 8, api.ErrFinal, api.ErrFinal)
	mustMay(t, s, 9, api.ErrFinal, api.OK)
	mustMay(t, s, 11, api.ErrWindow, api.ErrWindow)
	mustMay(t, s, 14, api.ErrTaken, api.ErrTaken)
	mustMay(t, s, 15, api.ErrNone, api.ErrNone)
	mustMay(t, s, -1, api.ErrNone, api.ErrNone)
}

// The days are counted from the unit's own order's, by its own category's window.
func TestMayOnEachDay(t *testing.T) {
	s := create(t, sample())
	for day := range 80 {
		in := func(from, to int) api.Errno {
			if day < from || day > to {
				return api.ErrWindow
			}
			return api.OK
		}
		mustMay(t, s, 0, in(0, 30), in(0, 30))
		mustMay(t, s, 8, api.ErrFinal, api.ErrFinal)
		mustMay(t, s, 9, api.ErrFinal, in(5, 15))
		mustMay(t, s, 10, in(5, 5), in(5, 5))
		mustMay(t, s, 11, in(40, 70), in(40, 70))
		take(t, s, tick(1))
	}
}

// A unit that was sent back is with the customer, but taken while its return isn't
// done.
func TestMayOfAUnitThatWasSentBack(t *testing.T) {
	s := create(t, sample())
	dock(t, s, ask(0, 0, 1))
	said := take(t, s, grade(1, 0, 3))
	mustMay(t, s, 0, api.ErrTaken, api.ErrTaken)
	take(t, s, reply(said[0].Key, true))
	mustBeUnit(t, s, 0, query.Unit{SKU: 1, RMA: 1, Share: 990})
	mustMay(t, s, 0, api.ErrTaken, api.ErrTaken)
	said = take(t, s, grade(1, 1, 0))
	mustMay(t, s, 0, api.ErrTaken, api.ErrTaken)
	take(t, s, reply(said[0].Key, true))
	mustMay(t, s, 0, api.OK, api.OK)
	mustMay(t, s, 1, api.ErrTaken, api.ErrTaken)
	take(t, s, ask(0, 0))
	mustMay(t, s, 0, api.ErrTaken, api.ErrTaken)
	take(t, s, of(command.Cancel, 2), tick(31))
	mustMay(t, s, 0, api.ErrWindow, api.ErrWindow)
}

// That a unit is taken is asked first.
func TestMayOfATakenUnitOnAnyDay(t *testing.T) {
	for _, days := range []int{31, 500, 1000} {
		s := busy(t)
		take(t, s, tick(days))
		mustMayAs(t, s, api.ErrWindow, api.ErrWindow, api.ErrTaken, api.ErrTaken, api.ErrTaken, api.ErrTaken, api.ErrTaken, api.ErrWindow, api.ErrFinal, api.ErrFinal, api.ErrWindow)
	}
	for place := 1; place < 9; place++ {
		p := create(t, sample()).Parts()
		for unit := range p.Places {
			p.Places[unit] = place
		}
		for unit := range p.Places {
			mustMay(t, makeOf(t, p), unit, api.ErrTaken, api.ErrTaken)
		}
	}
}

// A supply's unit is taken wherever it is, with the customer, too.
func TestMayOfASuppliesUnit(t *testing.T) {
	c := sample()
	c.Table[0].Window = 1000
	for place := range 9 {
		p := create(t, c).Parts()
		p.Places[12] = place
		mustMay(t, makeOf(t, p), 12, api.ErrTaken, api.ErrTaken)
	}
	none := create(t, api.Config{Supplies: c.Supplies})
	mustMay(t, none, 0, api.ErrTaken, api.ErrTaken)
	mustMay(t, none, 2, api.ErrTaken, api.ErrTaken)
	mustMay(t, none, 3, api.ErrNone, api.ErrNone)
}

// Nothing else is asked: neither whether there may be another return, nor whether
// anything that may be wanted is there.
func TestMayAsksNothingElse(t *testing.T) {
	s := many(t)
	if _, _, e := s.Take(ask(0, 1)); e != api.ErrMany {
		t.Fatal(e)
	}
	mustMay(t, s, 1, api.OK, api.OK)
	mustMay(t, s, 0, api.ErrTaken, api.ErrTaken)
	c := sample()
	c.Supplies = nil
	bare := create(t, c)
	take(t, bare, tick(5))
	mustMay(t, bare, 0, api.OK, api.OK)
	mustMay(t, bare, 9, api.ErrFinal, api.OK)
}

// mustMayAsTaken checks that a Request of each order's unit alone is answered as
// May says; something is wanted that is on the shelf, if that is asked for.
func mustMayAsTaken(t *testing.T, s *saga.Saga) (ok, refused int) {
	t.Helper()
	for unit, u := range s.Units() {
		for _, sku := range []int{0, 1} {
			if u.Order < 0 {
				continue
			}
			want := query.May(s, unit, sku > 0)
			_, _, e := s.Clone().Take(wanting(ask(u.Order, unit), sku))
			if e == api.ErrMany {
				continue
			}
			if e == api.ErrStock && sku > 0 {
				e = api.OK
			}
			if e != want {
				t.Fatalf("%d, wanting %d: %d; May: %d", unit, sku, e, want)
			}
			if e == api.OK {
				ok++
			} else {
				refused++
			}
		}
	}
	return ok, refused
}

func TestMayIsWhatARequestAnswers(t *testing.T) {
	for _, s := range someSagas(t) {
		mustMayAsTaken(t, s)
	}
}
