package ledger_test

import (
	"sync"
	"testing"

	"recoup/ledger"
)

// somePostings are taken, or refused, in each way.
func somePostings() []posting {
	return []posting{
		{of(), 0, 1, 5}, {of(-5, 5), 1, 2, 3}, {of(1, 2, 3, 4, 5), 4, 3, 0}, {of(most, least), 0, 1, most},
		{of(1, 2, 3, 4, 5), -1, 0, 1}, {of(1, 2, 3, 4, 5), 0, 5, 1}, {of(1, 2, 3, 4, 5), 2, 2, 1}, {of(1, 2, 3, 4, 5), 2, 3, -1},
		{of(1, 2, 3, 4, 5), 2, 3, most + 1}, {of(least, 2, 3, 4, 5), 0, 3, 1}, {of(1, 2, 3, most, 5), 0, 3, 1}, {of(1, 2, 3, most+1, 5), 3, 0, 1},
	}
}

// Nothing of the first ledger is changed, also if only the second one of both
// accounts is what refuses.
func TestPostLeavesItsLedgerAsItIs(t *testing.T) {
	for _, p := range somePostings() {
		l := p.l
		for range 2 {
			got, _ := ledger.Post(l, p.from, p.to, p.sum)
			if l != p.l {
				t.Error(p, "is now", l)
			}
			got.Have = [5]int64{77, 77, 77, 77, 77}
			if l != p.l {
				t.Error(p, "is now, by a write to the answer,", l)
			}
		}
	}
}

func TestAnswersAreNewLedgers(t *testing.T) {
	for _, p := range somePostings() {
		first, e := ledger.Post(p.l, p.from, p.to, p.sum)
		before := first
		p.l.Have[0]--
		second, _ := ledger.Post(p.l, p.from, p.to, p.sum)
		second.Have[1] = 77
		p.l.Have[0]++
		third, f := ledger.Post(p.l, p.from, p.to, p.sum)
		if first != before || third != before || e != f {
			t.Error(p, first, third, e, f, "was", before)
		}
	}
}

func TestTellingLeavesItsLedgerAsItIs(t *testing.T) {
	for _, l := range someLedgers() {
		before := l
		ledger.Total(l)
		for account := -1; account < 6; account++ {
			ledger.Balance(l, account)
		}
		if l != before {
			t.Error(before, "is now", l)
		}
	}
}

// Nothing is kept from call to call: what was refused or told before doesn't
// matter, nor who else asks.
func TestAnswersHangOnTheArgumentsAlone(t *testing.T) {
	var all sync.WaitGroup
	shared := somePostings()
	for range 4 {
		all.Go(func() {
			for range 500 {
				for _, p := range shared {
					mustBeDue(t, p)
					mustTell(t, p.l)
				}
			}
		})
	}
	all.Wait()
}
