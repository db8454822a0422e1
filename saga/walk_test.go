package saga_test

import (
	"math/rand"
	"slices"
	"testing"

	"recoup/api"
	"recoup/command"
	"recoup/outbox"
	"recoup/rma"
)

// somePolicy is right.
func somePolicy(r *rand.Rand) api.Policy {
	p := api.Policy{Window: r.Intn(1 + r.Intn(1001)), Final: r.Intn(10) == 0, Exchange: r.Intn(8) == 0, Credit: r.Intn(4) == 0}
	for k := range p.Fee {
		p.Fee[k] = []int{0, 0, 1000, r.Intn(10001), 10000}[r.Intn(5)]
	}
	for k := range p.Grades {
		if to := []int{0, 3, 4, 5}[r.Intn(4)]; to > 0 {
			p.Grades[k] = api.Grade{To: to, Share: []int{0, 10000, 5000, r.Intn(10001)}[r.Intn(4)]}
		}
	}
	return p
}

// someConfig is right, with few SKUs, so that what comes back is for sale again.
func someConfig(r *rand.Rand) api.Config {
	var c api.Config
	for range 1 + r.Intn(3) {
		c.Table = append(c.Table, somePolicy(r))
	}
	for range min(3, r.Intn(12)) {
		o := api.Order{Day: r.Intn(20), Tax: int64(r.Intn(50)), Shipping: int64(r.Intn(50))}
		for range 1 + r.Intn(3) {
			line := api.Line{SKU: 1 + r.Intn(4), Category: r.Intn(len(c.Table)), Price: int64(r.Intn(1000) * r.Intn(3)), Count: 1 + r.Intn(3)}
			o.Lines = append(o.Lines, line)
			o.Discount += line.Price / int64(1+r.Intn(9))
		}
		c.Orders = append(c.Orders, o)
	}
	for _, k := range r.Perm(4)[:r.Intn(5)] {
		c.Supplies = append(c.Supplies, api.Supply{SKU: 1 + k, Price: int64(r.Intn(600) * r.Intn(3)), Count: 1 + r.Intn(2)})
	}
	return c
}

// someUnits rise, mostly, and are one order's, mostly.
func (p pair) someUnits(r *rand.Rand, order int) []int {
	var own []int
	for k, u := range p.units {
		if u.Order == order || r.Intn(60) == 0 {
			own = append(own, k)
		}
	}
	if len(own) == 0 || r.Intn(30) == 0 {
		own = append(own, len(p.units)+r.Intn(2))
	}
	l := own[:0]
	for _, u := range own {
		if r.Intn(2) == 0 {
			l = append(l, u)
		}
	}
	if len(l) == 0 {
		l = own[:1]
	}
	if r.Intn(40) == 0 {
		r.Shuffle(len(l), func(i, j int) { l[i], l[j] = l[j], l[i] })
	}
	return l
}

func (p pair) someRequest(r *rand.Rand) command.Command {
	order := r.Intn(len(p.c.Orders) + 1)
	if len(p.c.Orders) > 0 && r.Intn(20) > 0 {
		order = r.Intn(len(p.c.Orders))
	}
	c := command.Command{Kind: 1, Order: order, Units: p.someUnits(r, order), Reason: r.Intn(4), Credit: r.Intn(4) == 0}
	if r.Intn(30) == 0 {
		c.Reason = 4
	}
	if r.Intn(2) == 0 {
		c.Want = []int{1, 2, 3, 4, 5, 1000, 1001}[r.Intn(5+r.Intn(3))]
	}
	return c
}

// someChange is one of a return, mostly one that it needs to go on.
func (p pair) someChange(r *rand.Rand) command.Command {
	if r.Intn(30) == 0 {
		return command.Command{Kind: 2 + r.Intn(5), RMA: r.Intn(len(p.l) + 2)}
	}
	if len(p.l) == 0 {
		return p.someRequest(r)
	}
	one := p.l[r.Intn(len(p.l))]
	for range 5 {
		if one.State > 4 {
			one = p.l[r.Intn(len(p.l))]
		}
	}
	unit := one.Units[r.Intn(len(one.Units))]
	switch {
	case r.Intn(20) == 0:
		return command.Command{Kind: 2 + r.Intn(2), RMA: one.Number}
	case r.Intn(20) == 0:
		return command.Command{Kind: 4 + r.Intn(2), RMA: one.Number}
	case r.Intn(20) == 0:
		return grade(one.Number, r.Intn(20), r.Intn(6))
	case one.State == rma.Labelled:
		return pick(one.Number)
	case one.State == rma.Moving:
		return receive(one.Number)
	}
	return grade(one.Number, unit, r.Intn(4))
}

// some is any command, mostly one that may be taken.
func (p pair) some(r *rand.Rand) command.Command {
	switch n := r.Intn(60); {
	case n < 12:
		return p.someRequest(r)
	case n < 13:
		return tick(r.Intn([]int{3, 20, 20, 50, 1002}[r.Intn(5)]))
	case n < 19:
		return tick(1)
	case n < 21:
		return reply(r.Intn(p.next+2), r.Intn(2) == 0)
	case n < 34 && len(p.out) > 0:
		return reply(p.out[r.Intn(len(p.out))].Key, r.Intn(4) > 0)
	}
	return p.someChange(r)
}

// mustHold checks what holds of any saga, whatever was taken.
func (p pair) mustHold(t *testing.T) {
	t.Helper()
	p.mustOweRight(t)
	p.mustBeInPlace(t)
}

// mustOweRight checks that the accounts are what the returns are, which come to
// what their units are worth.
func (p pair) mustOweRight(t *testing.T) {
	t.Helper()
	var have [5]int64
	for _, r := range p.s.RMAs() {
		var value int64
		for k, unit := range r.Units {
			policy := p.c.Table[p.units[unit].Category]
			switch g := r.Grades[k]; {
			case g == 4:
				value += p.units[unit].Share
			case g >= 0:
				value += worth(policy, p.units[unit].Share, r.Reason, g)
			}
		}
		all := r.Paid + r.Credited + r.Given
		if r.Worth != value || all > value || r.State == rma.Closed && all != value || r.State != rma.Closed && r.State != rma.Settling && all != 0 {
			t.Fatalf("%+v is worth %d", r, value)
		}
		if r.State == rma.Closed || r.State == rma.Settling {
			have = [5]int64{have[0] - value, have[1] + value - all, have[2] + r.Paid, have[3] + r.Credited, have[4] + r.Given}
		}
	}
	if l := p.s.Ledger(); l.Have != have || have[0]+have[1]+have[2]+have[3]+have[4] != 0 {
		t.Fatalf("%v; want %v", l, have)
	}
}

// mustBeInPlace checks that units are where their returns say, and were seen
// where they are; and that what is settling waits, and nothing else does.
func (p pair) mustBeInPlace(t *testing.T) {
	t.Helper()
	holds, keeps := map[int]int{}, map[int]int{}
	s, out := p.s.Stock(), p.s.Outbox()
	for _, r := range p.s.RMAs() {
		if !rma.Right(r) || (out.Waits(r.Number) > 0) != (r.State == rma.Settling || r.State == rma.Docked && out.Waits(r.Number) > 0) {
			t.Fatalf("%+v, with %v", r, out.All())
		}
		_, due := p.s.Timers().Day(r.Number)
		if due != (r.State == rma.Open || r.State == rma.Labelled || r.State == rma.Moving) {
			t.Fatalf("%+v, with %v", r, p.s.Timers().All())
		}
		if r.Reserved >= 0 && s.Place(r.Reserved) == 7 {
			keeps[r.Reserved]++
		}
		if rma.Done(r) {
			if r.Reserved >= 0 && s.Place(r.Reserved) != 8 {
				t.Fatalf("%+v has what is at %d", r, s.Place(r.Reserved))
			}
			continue
		}
		for k, unit := range r.Units {
			holds[unit]++
			place := s.Place(unit)
			if r.State < rma.Moving && place != 0 || r.State == rma.Moving && place != 1 || r.State == rma.Docked && (place == 2) != (r.Grades[k] < 0) {
				t.Fatalf("%+v has %d at %d", r, unit, place)
			}
		}
	}
	for unit, u := range p.units {
		received, graded := s.Seen(unit)
		place := s.Place(unit)
		if holds[unit] > 1 || keeps[unit] > 1 || (place == 7) != (keeps[unit] == 1) || u.Order >= 0 && place >= 3 && place <= 5 && !(received && graded) {
			t.Fatalf("%d is at %d, by %d and %d", unit, place, holds[unit], keeps[unit])
		}
	}
}

// mustEnd goes on, with any answers, until nothing is left to do; it checks that
// this comes to an end.
func (p pair) mustEnd(t *testing.T, r *rand.Rand) {
	t.Helper()
	for range 1000 {
		for _, m := range slices.Clone(p.out) {
			if r.Intn(3) > 0 {
				p.do(t, reply(m.Key, r.Intn(2) == 0))
			}
		}
		for _, one := range slices.Clone(p.l) {
			if one.State == rma.Docked {
				k := slices.Index(one.Grades, -1)
				p.do(t, grade(one.Number, one.Units[k], r.Intn(4)))
			}
		}
		p.do(t, tick(1+r.Intn(5)))
		if p.isStill() {
			p.check(t)
			p.mustHold(t)
			return
		}
	}
	t.Fatalf("%+v doesn't come to an end", p.s.Parts())
}

// isStill tells whether all is done, and nothing is left.
func (p pair) isStill() bool {
	for _, r := range p.s.RMAs() {
		if !rma.Done(r) {
			return false
		}
	}
	return len(p.s.Outbox().All()) == 0 && p.s.Timers().Len() == 0 && p.s.Stock().Count(7) == 0 && p.s.Ledger().Have[1] == 0
}

// Beside a saga told by another hand: what is answered, and all that it has; now
// and then it goes on by its clone, or what is made of its parts.
func TestAnyCommandsAreDue(t *testing.T) {
	r := rand.New(rand.NewSource(1))
	var states [10]int
	errors, kinds := map[api.Errno]int{}, map[int]int{}
	for range 2000 {
		p := create(t, someConfig(r))
		for range r.Intn(250) {
			_, said, e := p.do(t, p.some(r))
			errors[e]++
			for _, m := range said {
				kinds[m.Kind]++
			}
			switch r.Intn(10) {
			case 0:
				p.check(t)
				p.mustHold(t)
			case 1:
				p = p.clone()
			case 2:
				p = p.made(t)
			}
		}
		p.check(t)
		p.mustHold(t)
		p.mustEnd(t, r)
		for _, one := range p.l {
			states[one.State]++
		}
	}
	for _, e := range []api.Errno{api.OK, api.ErrArg, api.ErrNone, api.ErrTaken, api.ErrFinal, api.ErrWindow, api.ErrStock, api.ErrState, api.ErrOld} {
		if errors[e] < 1000 {
			t.Error(e, errors[e])
		}
	}
	for state := rma.Closed; state <= rma.Cancelled; state++ {
		if states[state] < 150 {
			t.Error(state, states[state])
		}
	}
	for _, kind := range []int{outbox.Label, outbox.Pay, outbox.Ship, outbox.Back} {
		if kinds[kind] < 300 {
			t.Error(kind, kinds[kind])
		}
	}
}

// Two go on from the same, each its own way.
func TestAnyClonesAreDue(t *testing.T) {
	r := rand.New(rand.NewSource(2))
	for range 400 {
		p := create(t, someConfig(r))
		for range r.Intn(80) {
			p.do(t, p.some(r))
		}
		c, m := p.clone(), p.made(t)
		for range 60 {
			one := []pair{p, c, m}[r.Intn(3)]
			one.do(t, one.some(r))
		}
		for _, one := range []pair{p, c, m} {
			one.check(t)
			one.mustHold(t)
		}
	}
}
