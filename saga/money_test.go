package saga_test

import (
	"testing"

	"recoup/api"
	"recoup/command"
	"recoup/outbox"
	"recoup/rma"
	"recoup/saga"
)

// with are a pair's parts, with accounts that have these sums.
func (p pair) with(sums ...int64) saga.Parts {
	parts := p.s.Parts()
	copy(parts.Ledger.Have[:], sums)
	return parts
}

// mustBeTooMuch checks that a command is refused, as a sum can't be, of these
// parts; and that it is taken, if an account has one cent more or less.
func mustBeTooMuch(t *testing.T, parts saga.Parts, c command.Command, account int, less int64) {
	t.Helper()
	mustRefuse(t, mustMake(t, parts), c, api.ErrMoney)
	parts.Ledger.Have[account] += less
	s := mustMake(t, parts)
	if _, _, e := s.Take(c); e != api.OK {
		t.Errorf("Take(%+v): %d", c, e)
	}
}

// What a return is worth is taken from the shop, and is owed then.
func TestTooMuchToSettle(t *testing.T) {
	p := create(t, sample())
	p.docked(t, ask(0, 0))
	mustBeTooMuch(t, p.with(-richest+987), grade(1, 0, 0), 0, 1)
	mustBeTooMuch(t, p.with(0, richest-987), grade(1, 0, 0), 1, -1)
	p = create(t, sample())
	p.docked(t, byCredit(ask(0, 0)))
	mustBeTooMuch(t, p.with(0, 0, 0, richest-987), grade(1, 0, 0), 3, -1)
}

// A Tick that is refused is refused whole: also what is due of other returns, and
// the day.
func TestTooMuchToLose(t *testing.T) {
	p := create(t, sample())
	p.take(t, ask(0, 1), api.OK)
	p.moving(t, ask(0, 2))
	p.moving(t, ask(0, 0))
	p.take(t, ask(0, 3), api.OK)
	mustBeTooMuch(t, p.with(-richest+987+987), tick(30), 0, 1)
	mustBeTooMuch(t, p.with(0, richest-987-987), tick(30), 1, -1)
	s := mustMake(t, p.with(-richest+987))
	if _, _, e := s.Take(tick(29)); e != api.OK || s.RMAs()[0].State != rma.Expired || s.RMAs()[1].State != rma.Moving {
		t.Error(e)
	}
	mustRefuse(t, s, tick(1), api.ErrMoney)
}

func TestTooMuchToReply(t *testing.T) {
	p := create(t, sample())
	_, said := p.settled(t, wanting(ask(0, 0), 1), 0)
	ship, pay := said[0].Key, said[1].Key
	for _, yes := range []bool{true, false} {
		mustBeTooMuch(t, p.with(0, -richest+87), reply(pay, yes), 1, 1)
	}
	mustBeTooMuch(t, p.with(0, 0, richest-87), reply(pay, true), 2, -1)
	mustBeTooMuch(t, p.with(0, 0, 0, richest-87), reply(pay, false), 3, -1)
	mustBeTooMuch(t, p.with(0, -richest+899), reply(ship, true), 1, 1)
	mustBeTooMuch(t, p.with(0, 0, 0, 0, richest-899), reply(ship, true), 4, -1)
	parts := p.with(0, 0, 0, richest-899)
	mustMake(t, parts).Take(reply(ship, false))
	parts.RMAs[0].Credit = true
	mustBeTooMuch(t, parts, reply(ship, false), 3, -1)
}

// So it is of a return's own sums, which are no more than MaxCents, either.
func TestTooMuchOfAReturn(t *testing.T) {
	p := create(t, sample())
	p.docked(t, ask(0, 0, 1))
	parts := p.s.Parts()
	parts.RMAs[0].Worth = richest - 987
	mustRefuse(t, mustMake(t, parts), grade(1, 0, 0), api.ErrMoney)
	parts.RMAs[0].Worth--
	if _, _, e := mustMake(t, parts).Take(grade(1, 0, 0)); e != api.OK {
		t.Error(e)
	}
	p = create(t, sample())
	p.moving(t, ask(0, 0, 1))
	parts = p.s.Parts()
	parts.RMAs[0].Worth = richest - 1975
	mustRefuse(t, mustMake(t, parts), tick(30), api.ErrMoney)
	parts.RMAs[0].Worth--
	if _, _, e := mustMake(t, parts).Take(tick(30)); e != api.OK {
		t.Error(e)
	}
	p = create(t, sample())
	_, said := p.settled(t, wanting(ask(0, 0), 1), 0)
	ship, pay := said[0].Key, said[1].Key
	for _, c := range []struct {
		sum  func(r *rma.RMA) *int64
		more int64
		c    command.Command
	}{
		{func(r *rma.RMA) *int64 { return &r.Paid }, 88, reply(pay, true)},
		{func(r *rma.RMA) *int64 { return &r.Credited }, 88, reply(pay, false)},
		{func(r *rma.RMA) *int64 { return &r.Given }, 900, reply(ship, true)},
	} {
		parts := p.s.Parts()
		*c.sum(&parts.RMAs[0]) = richest - c.more + 1
		mustRefuse(t, mustMake(t, parts), c.c, api.ErrMoney)
		*c.sum(&parts.RMAs[0]) = richest - c.more
		if _, _, e := mustMake(t, parts).Take(c.c); e != api.OK {
			t.Error(c.c, e)
		}
	}
}

// The dearest that there may be goes through all.
func TestTheDearest(t *testing.T) {
	c := api.Config{Table: []api.Policy{{Window: 1000, Grades: grades()}}, Supplies: []api.Supply{{SKU: 1, Price: 1 << 30, Count: 1}}}
	o := api.Order{Tax: 1 << 30, Shipping: 1 << 30}
	for range 4 {
		o.Lines = append(o.Lines, api.Line{SKU: 1, Price: 1 << 30, Count: 15})
	}
	c.Orders = []api.Order{o}
	p := create(t, c)
	l := make([]int, 60)
	for k := range l {
		l[k] = k
	}
	_, said := p.settled(t, wanting(ask(0, l...), 1), 0)
	mustSay(t, said, [5]int{outbox.Ship, 1, 60, 1, 1}, [5]int{outbox.Pay, 1, 61 << 30, 1, 1})
	p.take(t, reply(said[0].Key, true), api.OK)
	p.take(t, reply(said[1].Key, true), api.OK)
	p.mustBe(t, 1, rma.Closed, 62<<30, 61<<30, 0, 1<<30)
	p.mustHold(t)
}
