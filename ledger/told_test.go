package ledger_test

import (
	"testing"

	"recoup/ledger"
)

func TestBalanceTellsWhatAnAccountHas(t *testing.T) {
	for _, l := range append(someLedgers(), of(10, 20, 30, 40, 50), of(-1, -2, -3, -4, -5)) {
		for account, have := range l.Have {
			if got := ledger.Balance(l, account); got != have {
				t.Error(l, account, got)
			}
		}
	}
}

func TestBalanceOfNoAccountIsNought(t *testing.T) {
	for _, account := range noAccounts() {
		for _, l := range append(someLedgers(), of(10, 20, 30, 40, 50)) {
			if got := ledger.Balance(l, account); got != 0 {
				t.Error(l, account, got)
			}
		}
	}
}

func TestTotalTellsAllTogether(t *testing.T) {
	for _, c := range []struct {
		l    ledger.Ledger
		want int64
	}{
		{of(), 0}, {of(-5, 5), 0}, {of(1), 1}, {of(0, 1), 1}, {of(0, 0, 1), 1}, {of(0, 0, 0, 1), 1}, {of(0, 0, 0, 0, 1), 1},
		{of(1, 20, 300, 4000, 50000), 54321}, {of(-1, -20, -300, -4000, -50000), -54321}, {of(-60, 10, 20, 30), 0}, {of(7, -9), -2},
		// More than MaxCents together is told, too, and so is a wrong sum.
		{of(most, most, most, most, most), 5 * most}, {of(least, least, least, least, least), 5 * least}, {of(most, 1), most + 1}, {of(least, 0, 0, -1), least - 1},
		{of(most + 1), most + 1}, {of(least-1, 1), least}, {of(greatest), greatest}, {of(0, 0, smallest), smallest}, {of(greatest, smallest), -1},
	} {
		if got := ledger.Total(c.l); got != c.want {
			t.Errorf("of %v: %d; want %d", c.l, got, c.want)
		}
	}
}

func TestTotalWrapsRound(t *testing.T) {
	for _, c := range []struct {
		l    ledger.Ledger
		want int64
	}{
		{of(greatest, 1), smallest}, {of(smallest, -1), greatest}, {of(greatest, greatest), -2}, {of(smallest, smallest), 0},
		{of(0, 0, 0, greatest, 5), smallest + 4}, {of(0, 0, 0, smallest, -5), greatest - 4}, {of(1<<62, 1<<62), smallest}, {of(1<<62, 1<<62, 1<<62, 1<<62), 0},
		{of(greatest, greatest, greatest, greatest, greatest), greatest - 4}, {of(smallest, smallest, smallest, smallest, smallest), smallest}, {of(greatest, 1, -1), greatest},
		{of(-1<<62, -1<<62, -1), greatest}, {of(greatest, 7, smallest, -6), 0},
	} {
		if got := ledger.Total(c.l); got != c.want {
			t.Errorf("of %v: %d; want %d", c.l, got, c.want)
		}
	}
}

func TestAllLedgersAreTold(t *testing.T) {
	for _, l := range someLedgers() {
		mustTell(t, l)
	}
	for _, have := range append(wrongHaves(), allSums()...) {
		for account := range 5 {
			mustTell(t, with(of(), account, have))
			mustTell(t, with(of(3, most, greatest, smallest, -9), account, have))
		}
	}
}
