package query_test

import (
	"testing"

	"recoup/api"
	"recoup/command"
	"recoup/query"
	"recoup/saga"
)

func mustBeUnit(t *testing.T, s *saga.Saga, unit int, want query.Unit) {
	t.Helper()
	if got, e := query.UnitOf(s, unit); got != want || e != api.OK {
		t.Errorf("UnitOf(%d): %+v, %d; want %+v", unit, got, e, want)
	}
}

func TestEachUnit(t *testing.T) {
	s := busy(t)
	for unit, want := range []query.Unit{
		{Place: 0, SKU: 1, RMA: 1, Share: 990},
		{Place: 0, SKU: 1, RMA: 2, Share: 990},
		{Place: 1, SKU: 1, RMA: 3, Share: 990},
		{Place: 2, SKU: 1, RMA: 4, Share: 990},
		{Place: 8, SKU: 1, RMA: 4, Share: 990},
		{Place: 3, SKU: 1, RMA: 5, Share: 990},
		{Place: 4, SKU: 1, Share: 990},
		{Place: 0, SKU: 1, Share: 990},
		{Place: 0, SKU: 3, Share: 700},
		{Place: 0, SKU: 4, Share: 300},
		{Place: 0, SKU: 5, Share: 805},
		{Place: 0, SKU: 6, Share: 7},
		// What is reserved for a return isn't one of its units.
		{Place: 7, SKU: 2, Share: 900},
		{Place: 7, SKU: 2, Share: 900},
		{Place: 3, SKU: 1, Share: 1},
	} {
		mustBeUnit(t, s, unit, want)
	}
}

// A unit is a return's until that is done, and may be another one's then.
func TestWhoHasAUnit(t *testing.T) {
	s := create(t, sample())
	mustBeUnit(t, s, 7, query.Unit{SKU: 1, Share: 990})
	take(t, s, ask(0, 6, 7))
	mustBeUnit(t, s, 7, query.Unit{SKU: 1, RMA: 1, Share: 990})
	take(t, s, of(command.Deny, 1))
	mustBeUnit(t, s, 7, query.Unit{SKU: 1, Share: 990})
	take(t, s, ask(0, 6))
	mustBeUnit(t, s, 7, query.Unit{SKU: 1, Share: 990})
	said := take(t, s, grade(dock(t, s, ask(0, 7)), 7, 3))
	mustBeUnit(t, s, 7, query.Unit{Place: 8, SKU: 1, RMA: 3, Share: 990})
	take(t, s, reply(said[0].Key, true))
	mustBeUnit(t, s, 7, query.Unit{SKU: 1, Share: 990})
	take(t, s, ask(0, 7))
	mustBeUnit(t, s, 7, query.Unit{SKU: 1, RMA: 4, Share: 990})
	mustBeUnit(t, s, 6, query.Unit{SKU: 1, RMA: 2, Share: 990})
}

// Of parts in which several have a unit, the first one that isn't done is told,
// whosever the unit is.
func TestAUnitOfSeveralReturns(t *testing.T) {
	s := changed(t, func(p *saga.Parts) {
		for k := range p.RMAs {
			p.RMAs[k].Units, p.RMAs[k].Grades = []int{5, 14}, []int{-1, 4}
		}
		p.RMAs[0].State, p.RMAs[1].State = 6, 9
		p.RMAs[5].State, p.Out = 1, nil
		p.Places[5] = 0
	})
	mustBeUnit(t, s, 5, query.Unit{SKU: 1, RMA: 3, Share: 990})
	mustBeUnit(t, s, 14, query.Unit{Place: 3, SKU: 1, RMA: 3, Share: 1})
	mustBeUnit(t, s, 3, query.Unit{Place: 2, SKU: 1, Share: 990})
	mustMay(t, s, 5, api.ErrTaken, api.ErrTaken)
}

func TestAUnitInEachPlace(t *testing.T) {
	for place := range 9 {
		for _, unit := range []int{0, 8, 14} {
			p := create(t, sample()).Parts()
			p.Places[unit] = place
			s := makeOf(t, p)
			if got, e := query.UnitOf(s, unit); got.Place != place || e != api.OK {
				t.Errorf("UnitOf(%d): %+v, %d; want place %d", unit, got, e, place)
			}
			mustTell(t, s)
		}
	}
}

func TestCounts(t *testing.T) {
	for _, c := range []struct {
		s    *saga.Saga
		want [9]int
	}{
		{create(t, api.Config{}), [9]int{}},
		{create(t, sample()), [9]int{12, 0, 0, 3}},
		{busy(t), [9]int{7, 1, 1, 2, 1, 0, 0, 2, 1}},
		{changed(t, func(p *saga.Parts) { copy(p.Places, []int{5, 5, 5, 5, 5, 5, 6, 6, 6, 6, 8, 8, 8, 1, 1}) }), [9]int{1: 2, 5: 6, 6: 4, 8: 3}},
		{changed(t, func(p *saga.Parts) { copy(p.Places, []int{0, 1, 2, 3, 4, 5, 6, 7, 8, 0, 1, 2, 3, 4, 8}) }), [9]int{2, 2, 2, 2, 2, 1, 1, 1, 2}},
	} {
		if got := query.Counts(c.s); got != c.want {
			t.Errorf("%v; want %v", got, c.want)
		}
	}
}
