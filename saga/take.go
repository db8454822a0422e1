package saga

import (
	"recoup/api"
	"recoup/cents"
	"recoup/command"
	"recoup/ledger"
	"recoup/order"
	"recoup/outbox"
	"recoup/rma"
)

// turn is a command being taken by a copy of a saga. The first error that is
// heeded refuses it; whatever is done to the copy then is dropped with it.
type turn struct {
	Saga
	said    []outbox.Message
	refused api.Errno
}

// Take takes a command, or refuses it; it tells the value, and what is said.
func (s *Saga) Take(c command.Command) (int64, []outbox.Message, api.Errno) {
	if s == nil || !command.Formed(c) {
		return 0, nil, api.ErrArg
	}
	t := turn{Saga: *s.Clone()}
	value := t.take(c)
	if t.refused != api.OK {
		return 0, nil, t.refused
	}
	*s = t.Saga
	return value, t.said, api.OK
}

func (t *turn) heed(e api.Errno) {
	if t.refused == api.OK {
		t.refused = e
	}
}

func (t *turn) take(c command.Command) int64 {
	switch c.Kind {
	case command.Request:
		return t.request(c)
	case command.Tick:
		t.tick(c.Days)
	case command.Reply:
		t.reply(c.Key, c.Yes)
	default:
		t.change(c)
	}
	return 0
}

// find tells the return of a number, which there is.
func (t *turn) find(number int) *rma.RMA { return &t.rmas[number-1] }

// step does one step of a return.
func (t *turn) step(r *rma.RMA, by int) {
	state, e := rma.Next(r.State, by)
	t.heed(e)
	r.State = state
}

// mark gives a unit of a return a grade.
func (t *turn) mark(r *rma.RMA, unit, grade int) {
	graded, e := rma.Grade(*r, unit, grade)
	t.heed(e)
	if e == api.OK {
		*r = graded
	}
}

// move moves units to a place.
func (t *turn) move(to int, units ...int) {
	for _, unit := range units {
		t.heed(t.stock.Move(unit, to))
	}
}

// put says a message of a return for the first time.
func (t *turn) put(kind, number int, value int64) {
	t.said = append(t.said, t.out.Put(kind, number, value, t.now))
}

// post posts a sum from one account to another.
func (t *turn) post(from, to int, sum int64) {
	l, e := ledger.Post(t.ledger, from, to, sum)
	t.heed(e)
	t.ledger = l
}

// add adds a sum to one of a return's.
func (t *turn) add(to *int64, sum int64) {
	all, e := cents.Add(*to, sum)
	t.heed(e)
	*to = all
}

// price tells what a unit is sold at.
func (t *turn) price(unit int) int64 {
	price, e := order.Price(t.config, t.stock.SKU(unit))
	t.heed(e)
	return price
}
