package saga

import (
	"recoup/api"
	"recoup/command"
	"recoup/outbox"
	"recoup/rma"
	"recoup/rule"
)

// daysMost is how many days may go by at once.
const daysMost = 1000

// change does what is asked of one return.
func (t *turn) change(c command.Command) {
	if !isFrom(1, c.RMA, len(t.rmas)) {
		t.heed(api.ErrNone)
		return
	}
	r := t.find(c.RMA)
	switch c.Kind {
	case command.Cancel:
		t.end(r, rma.ByCancel)
	case command.Deny:
		t.end(r, rma.ByDenial)
	case command.Pick:
		t.step(r, rma.ByPick)
		t.move(onItsWay, r.Units...)
		t.timers.Set(r.Number, t.now+api.ClaimDays)
	case command.Receive:
		t.step(r, rma.ByReceipt)
		t.move(dock, r.Units...)
		t.timers.Stop(r.Number)
	case command.Grade:
		t.grade(r, c.Unit, c.Grade)
	}
}

// grade gives one unit of a return its grade, and puts it away.
func (t *turn) grade(r *rma.RMA, unit, grade int) {
	if r.State != rma.Docked {
		t.heed(api.ErrState)
	}
	t.mark(r, unit, grade)
	if t.refused != api.OK {
		return
	}
	p := t.policy(unit)
	// Of the grade 4, which isn't for those who look at units, both are ErrArg.
	worth, e := rule.Worth(p, t.units[unit].Share, r.Reason, grade)
	t.heed(e)
	t.add(&r.Worth, worth)
	to, e := rule.To(p, grade)
	t.heed(e)
	t.putAway(r, unit, to)
	if rma.Graded(*r) {
		t.settle(r, rma.ByGrades)
	}
}

// putAway moves a unit to where its grade says; of 0 it is sent back.
func (t *turn) putAway(r *rma.RMA, unit, to int) {
	if to == 0 {
		to = goneOut
		t.put(outbox.Back, r.Number, int64(unit))
	}
	t.move(to, unit)
}

func (t *turn) tick(days int) {
	if !isFrom(1, days, daysMost) {
		t.heed(api.ErrArg)
		return
	}
	if t.now+days > api.MaxDay {
		t.heed(api.ErrRange)
		return
	}
	t.now += days
	for _, number := range t.timers.Due(t.now) {
		t.due(t.find(number))
	}
	again, over := t.out.Again(t.now)
	for _, m := range over {
		t.expire(t.find(m.RMA))
	}
	t.said = append(t.said, again...)
}

// due does what is due of a return whose time is over.
func (t *turn) due(r *rma.RMA) {
	t.expire(r)
	if r.State == rma.Moving {
		t.lose(r)
	}
}

// expire ends a return that may still expire.
func (t *turn) expire(r *rma.RMA) {
	if _, e := rma.Next(r.State, rma.ByExpiry); e == api.OK {
		t.end(r, rma.ByExpiry)
	}
}

// lose takes all units of a return for lost, and settles it.
func (t *turn) lose(r *rma.RMA) {
	t.move(lost, r.Units...)
	for _, unit := range r.Units {
		t.mark(r, unit, rma.LostGrade)
		t.add(&r.Worth, t.units[unit].Share)
	}
	t.settle(r, rma.ByLoss)
}

// reply does what follows of a message's answer.
func (t *turn) reply(key int, yes bool) {
	m, ok := t.out.Heard(key)
	if !ok {
		t.heed(api.ErrOld)
		return
	}
	r := t.find(m.RMA)
	switch m.Kind {
	case outbox.Label:
		t.labelled(r, yes)
	case outbox.Pay:
		t.paid(r, m.Value, yes)
	case outbox.Ship:
		t.shipped(r, int(m.Value), yes)
	case outbox.Back:
		t.sentBack(int(m.Value), yes)
	}
	t.close(r)
}

func (t *turn) labelled(r *rma.RMA, yes bool) {
	if !yes {
		t.end(r, rma.ByExpiry)
		return
	}
	t.step(r, rma.ByLabel)
}

func (t *turn) paid(r *rma.RMA, sum int64, yes bool) {
	if !yes {
		t.credit(r, sum)
		return
	}
	t.post(owed, paidOut, sum)
	t.add(&r.Paid, sum)
}

func (t *turn) shipped(r *rma.RMA, unit int, yes bool) {
	if !yes {
		t.move(sellable, unit)
		r.Reserved = noUnit
		t.payOut(r, t.price(unit))
		return
	}
	t.move(goneOut, unit)
	price := t.price(unit)
	t.post(owed, goods, price)
	t.add(&r.Given, price)
}

func (t *turn) sentBack(unit int, yes bool) {
	if !yes {
		t.move(lost, unit)
		return
	}
	t.move(customer, unit)
}
