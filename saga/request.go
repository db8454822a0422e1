package saga

import (
	"slices"

	"recoup/api"
	"recoup/command"
	"recoup/order"
	"recoup/outbox"
	"recoup/rma"
	"recoup/rule"
	"recoup/table"
)

// request opens a return, and tells its number.
func (t *turn) request(c command.Command) int64 {
	r := t.asked(c)
	if e := t.mayOpen(r); e != api.OK {
		t.heed(e)
		return 0
	}
	r.Credit = r.Credit || slices.ContainsFunc(r.Units, func(unit int) bool { return t.policy(unit).Credit })
	r.Reserved = t.reserve(r.Want)
	t.rmas = append(t.rmas, r)
	t.timers.Set(r.Number, t.now+api.LabelDays)
	t.put(outbox.Label, r.Number, 0)
	return int64(r.Number)
}

// asked tells the return that a Request asks for, be it right or not.
func (s *Saga) asked(c command.Command) rma.RMA {
	return rma.RMA{
		Number: len(s.rmas) + 1, Order: c.Order, Reason: c.Reason,
		Want: c.Want, Reserved: noUnit, Credit: c.Credit,
		State: rma.Open, Day: s.now,
		Units: slices.Clone(c.Units), Grades: slices.Repeat([]int{noGrade}, len(c.Units)),
	}
}

// mayOpen tells whether a return that is asked for may be opened, if what is
// wanted for it can be reserved.
func (s *Saga) mayOpen(r rma.RMA) api.Errno {
	switch {
	case r.Number > api.MaxRMAs:
		return api.ErrMany
	case r.Order >= len(s.config.Orders):
		return api.ErrNone
	case !rma.Right(r) || slices.ContainsFunc(r.Units, func(unit int) bool { return !s.isOf(unit, r.Order) }):
		return api.ErrArg
	}
	days := s.now - s.config.Orders[r.Order].Day
	for _, unit := range r.Units {
		if s.isTaken(unit) {
			return api.ErrTaken
		}
		if e := rule.May(s.policy(unit), days, r.Want != 0); e != api.OK {
			return e
		}
	}
	return api.OK
}

// isOf tells whether a unit is one of order n's.
func (s *Saga) isOf(unit, n int) bool { return unit < len(s.units) && s.units[unit].Order == n }

// isTaken tells whether a unit may not be asked for, because of where it is, or
// because a return that isn't done has it: one that was sent back out of such a
// return is with the customer, too.
func (s *Saga) isTaken(unit int) bool {
	taken := s.stock.Place(unit) != customer
returns:
	for _, r := range s.rmas {
		if rma.Done(r) {
			continue
		}
		for _, u := range r.Units {
			if u == unit {
				taken = true
				break returns
			}
		}
	}
	return taken
}

// policy tells that of a unit's category. There is one: a unit of no order's has
// the category 0, and where no table is, no return is either.
func (s *Saga) policy(unit int) api.Policy {
	p, _ := table.Of(s.config.Table, s.units[unit].Category)
	return p
}

// reserve reserves a unit of a SKU, if one is wanted, and tells which.
func (t *turn) reserve(sku int) int {
	if sku == 0 {
		return noUnit
	}
	// One that came back may be on the shelf, though it isn't for sale.
	if _, e := order.Price(t.config, sku); e != api.OK {
		t.heed(api.ErrStock)
	}
	unit, e := t.stock.Pick(sku)
	t.heed(e)
	return unit
}
