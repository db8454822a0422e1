package saga

import (
	"slices"

	"recoup/api"
	"recoup/cents"
	"recoup/ledger"
	"recoup/order"
	"recoup/outbox"
	"recoup/rma"
	"recoup/stock"
	"recoup/timer"
)

// Parts is all that a saga has. Places and Seen are the units', by their
// numbers: where each is, and whether it was received, and graded; Next is the
// outbox's next key, and Out its messages.
type Parts struct {
	Config api.Config
	Places []int
	Seen   [][2]bool
	Ledger ledger.Ledger
	RMAs   []rma.RMA
	Timers []timer.Timer
	Next   int
	Out    []outbox.Message
	Now    int
}

// Parts tells all that a saga has.
func (s *Saga) Parts() Parts {
	if s == nil {
		return Parts{}
	}
	p := Parts{Config: s.Config(), Ledger: s.ledger, RMAs: s.RMAs(), Timers: s.timers.All(), Next: s.out.NextKey(), Out: s.out.All(), Now: s.now}
	for unit := range s.units {
		received, graded := s.stock.Seen(unit)
		p.Places = append(p.Places, s.stock.Place(unit))
		p.Seen = append(p.Seen, [2]bool{received || s.received[unit], graded})
	}
	return p
}

// Make tells the saga that has these parts.
func Make(p Parts) (*Saga, api.Errno) {
	units, e := order.Units(p.Config)
	if e != api.OK || !isRight(p, len(units)) {
		return nil, api.ErrArg
	}
	timers := new(timer.Timers)
	for _, t := range p.Timers {
		timers.Set(t.Number, t.Day)
	}
	// Of two with the same number the timers have but one.
	if timers.Len() != len(p.Timers) {
		return nil, api.ErrArg
	}
	out, e := outbox.Load(p.Next, p.Out)
	if e != api.OK {
		return nil, e
	}
	s := &Saga{config: order.Clone(p.Config), units: units, ledger: p.Ledger, rmas: clones(p.RMAs), timers: timers, out: out, now: p.Now}
	s.stock = stockOf(units, p.Places, p.Seen)
	for _, seen := range p.Seen {
		s.received = append(s.received, seen[0])
	}
	return s, api.OK
}

// isRight asks of parts, with a right config of so many units, all but whether
// their messages are an outbox's, and two timers have one number.
func isRight(p Parts, units int) bool {
	return isFrom(0, p.Now, api.MaxDay) && !slices.ContainsFunc(p.Ledger.Have[:], isNoSum) &&
		len(p.Places) == units && len(p.Seen) == units && arePlaces(p.Places, p.Seen) &&
		areReturns(p.RMAs, len(p.Config.Orders), units) &&
		areTimers(p.Timers, len(p.RMAs)) && areMessages(p.Out, p.RMAs)
}

func isNoSum(sum int64) bool { return !cents.Right(sum) }

// arePlaces tells whether units, as many as both have, may be there, and seen so.
func arePlaces(places []int, seen [][2]bool) bool {
	for unit, place := range places {
		received, graded := seen[unit][0], seen[unit][1]
		if !isFrom(customer, place, goneOut) || graded && !received {
			return false
		}
	}
	return true
}

// areReturns tells whether returns are a saga's, of so many orders and units.
func areReturns(l []rma.RMA, orders, units int) bool {
	// No return's number is above MaxRMAs: so there are no more, either.
	for k, r := range l {
		// Units rise: the last one is the greatest.
		if !rma.Right(r) || r.Number != k+1 || r.Order >= orders || r.Reserved >= units || r.Units[len(r.Units)-1] >= units {
			return false
		}
	}
	return true
}

func areTimers(l []timer.Timer, returns int) bool {
	return !slices.ContainsFunc(l, func(t timer.Timer) bool { return t.Day < 0 || !isFrom(1, t.Number, returns) })
}

// areMessages tells whether messages are of returns that may say them.
func areMessages(l []outbox.Message, returns []rma.RMA) bool {
	for _, m := range l {
		if !isFrom(1, m.RMA, len(returns)) || m.Kind == outbox.Label && returns[m.RMA-1].State != rma.Open {
			return false
		}
	}
	return true
}

func isFrom(least, v, most int) bool { return least <= v && v <= most }

// stockOf tells the stock of units that are at places, and were seen so. A stock
// sees by itself what it moves: so a unit that was seen begins on its way, and
// is moved to its place.
func stockOf(units []order.Unit, places []int, seen [][2]bool) *stock.Stock {
	skus, from := make([]int, len(units)), slices.Clone(places)
	for unit, u := range units {
		skus[unit] = u.SKU
		if len(steps(places[unit], seen[unit])) > 0 {
			from[unit] = onItsWay
		}
	}
	// They are alike in number, no more than MaxUnits, and all places are some.
	s, _ := stock.New(skus, from)
	for unit, place := range places {
		for _, to := range steps(place, seen[unit]) {
			s.Move(unit, to)
		}
	}
	return s
}

// steps tells through which places a unit on its way comes to a place, so that
// it is seen so then. There are none for one that wasn't seen; nor for one that
// was received and isn't graded, anywhere but at the dock.
func steps(place int, seen [2]bool) []int {
	switch received, graded := seen[0], seen[1]; {
	case graded:
		return gradedSteps(place)
	case received && place == dock:
		return []int{dock}
	}
	return nil
}

func gradedSteps(place int) []int {
	switch place {
	case customer:
		return []int{dock, goneOut, customer}
	case onItsWay:
		return []int{dock, goneOut, customer, onItsWay}
	case dock:
		return []int{dock, goneOut, customer, onItsWay, dock}
	case lost:
		return []int{dock, goneOut, lost}
	case reserved:
		return []int{dock, sellable, reserved}
	}
	return []int{dock, place}
}
