package saga

import (
	"recoup/outbox"
	"recoup/rma"
)

// end ends a return of which nothing has come back.
func (t *turn) end(r *rma.RMA, by int) {
	t.step(r, by)
	t.release(r)
	t.timers.Stop(r.Number)
	t.out.Drop(r.Number, outbox.Label)
}

// release puts what is reserved for a return back on the shelf.
func (t *turn) release(r *rma.RMA) {
	if r.Reserved != noUnit {
		t.move(sellable, r.Reserved)
		r.Reserved = noUnit
	}
}

// settle owes what a return is worth, and sees to it that it is paid.
func (t *turn) settle(r *rma.RMA, by int) {
	t.step(r, by)
	t.post(shop, owed, r.Worth)
	t.payOut(r, t.exchange(r))
	t.close(r)
}

// exchange ships what is reserved for a return, if that is worth it, and tells
// what is left to be paid out.
func (t *turn) exchange(r *rma.RMA) int64 {
	if r.Reserved == noUnit {
		return r.Worth
	}
	price := t.price(r.Reserved)
	if r.Worth < price {
		t.release(r)
		return r.Worth
	}
	t.put(outbox.Ship, r.Number, int64(r.Reserved))
	return r.Worth - price
}

// payOut pays a sum out, or has it paid.
func (t *turn) payOut(r *rma.RMA, sum int64) {
	switch {
	case sum == 0:
	case r.Credit:
		t.credit(r, sum)
	default:
		t.put(outbox.Pay, r.Number, sum)
	}
}

func (t *turn) credit(r *rma.RMA, sum int64) {
	t.post(owed, storeCredit, sum)
	t.add(&r.Credited, sum)
}

// close closes a return of which nothing is left to be heard.
func (t *turn) close(r *rma.RMA) {
	if r.State == rma.Settling && t.out.Waits(r.Number) == 0 {
		t.step(r, rma.BySettling)
	}
}
