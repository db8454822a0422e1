package query_test

import (
	"testing"

	"recoup/api"
	"recoup/query"
	"recoup/saga"
)

// mustTellNoReturn checks that there is an error alone.
func mustTellNoReturn(t *testing.T, s *saga.Saga, number int, want api.Errno) {
	t.Helper()
	if got, e := query.Of(s, number); got != (query.Status{}) || e != want {
		t.Errorf("Of(%d): %+v, %d; want %d alone", number, got, e, want)
	}
	if got, e := query.Line(s, number); got != "" || e != want {
		t.Errorf("Line(%d): %q, %d; want %d alone", number, got, e, want)
	}
}

func mustTellNoUnit(t *testing.T, s *saga.Saga, unit int, want api.Errno) {
	t.Helper()
	if got, e := query.UnitOf(s, unit); got != (query.Unit{}) || e != want {
		t.Errorf("UnitOf(%d): %+v, %d; want %d alone", unit, got, e, want)
	}
	mustMay(t, s, unit, want, want)
}

func mustTellNothing(t *testing.T, s *saga.Saga, want api.Errno) {
	t.Helper()
	for _, n := range someNumbers() {
		mustTellNoReturn(t, s, n, want)
		mustTellNoUnit(t, s, n, want)
	}
	if got := query.Counts(s); got != [9]int{} {
		t.Error(got)
	}
	if got := query.Open(s); len(got) != 0 {
		t.Error(got)
	}
}

func TestANilSaga(t *testing.T) { mustTellNothing(t, nil, api.ErrArg) }

// A saga that nobody made has nothing, and neither has one of no config.
func TestASagaOfNothing(t *testing.T) {
	mustTellNothing(t, new(saga.Saga), api.ErrNone)
	mustTellNothing(t, create(t, api.Config{}), api.ErrNone)
}

func TestNoSuchReturn(t *testing.T) {
	s := busy(t)
	for _, number := range someNumbers() {
		if number < 1 || number > 9 {
			mustTellNoReturn(t, s, number, api.ErrNone)
		}
	}
	mustTellNoReturn(t, create(t, sample()), 1, api.ErrNone)
	mustTellNoReturn(t, many(t), 101, api.ErrNone)
}

func TestNoSuchUnit(t *testing.T) {
	s := busy(t)
	for _, unit := range someNumbers() {
		if unit < 0 || unit > 14 {
			mustTellNoUnit(t, s, unit, api.ErrNone)
		}
	}
}

// A config of as many units as there may be: all are told, and no more.
func TestAllUnitsThatThereMayBe(t *testing.T) {
	c := api.Config{Table: []api.Policy{{Window: 5}}}
	for range 3 {
		c.Orders = append(c.Orders, api.Order{Lines: []api.Line{{SKU: 1000, Price: 1 << 30, Count: 50}}, Tax: 1 << 30, Shipping: 1 << 30})
	}
	c.Supplies = []api.Supply{{SKU: 999, Price: 1 << 30, Count: 50}}
	s := create(t, c)
	mustTell(t, s)
	mustBeUnit(t, s, 199, query.Unit{Place: 3, SKU: 999, Share: 1 << 30})
	mustMay(t, s, 149, api.OK, api.OK)
	mustMay(t, s, 150, api.ErrTaken, api.ErrTaken)
	mustTellNoUnit(t, s, 200, api.ErrNone)
	if got := query.Counts(s); got != [9]int{0: 150, 3: 50} {
		t.Error(got)
	}
}
