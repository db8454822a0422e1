package ledger_test

import (
	"testing"

	"recoup/api"
	"recoup/ledger"
)

func TestLimitsAreTheDocuments(t *testing.T) {
	if api.MaxCents != most || ledger.Accounts != 5 || len(of().Have) != 5 {
		t.Error(api.MaxCents, ledger.Accounts, len(of().Have))
	}
}

func TestPostTakesFromOneAndPutsToAnother(t *testing.T) {
	for _, c := range []struct {
		posting
		want ledger.Ledger
	}{
		{posting{of(), 0, 1, 5}, of(-5, 5)},
		{posting{of(-5, 5), 1, 2, 3}, of(-5, 2, 3)},
		{posting{of(-5, 5), 1, 3, 5}, of(-5, 0, 0, 5)},
		{posting{of(-5, 5), 1, 0, 5}, of()},
		{posting{of(-5, 5), 1, 0, 7}, of(2, -2)},
		{posting{of(), 4, 0, 1}, of(1, 0, 0, 0, -1)},
		{posting{of(), 0, 4, 1}, of(-1, 0, 0, 0, 1)},
		{posting{of(-7, -8, -9), 2, 1, 10}, of(-7, 2, -19)},
		{posting{of(1, 2, 3, 4, 5), 3, 4, 1 << 33}, of(1, 2, 3, 4-1<<33, 5+1<<33)},
	} {
		mustPost(t, c.posting, c.want)
	}
}

func TestPostChangesJustTheTwoAccounts(t *testing.T) {
	l := of(100, 200, 300, 400, 500)
	for from := range 5 {
		for to := range 5 {
			if from != to {
				want := with(with(l, from, l.Have[from]-7), to, l.Have[to]+7)
				mustPost(t, posting{l, from, to, 7}, want)
			}
		}
	}
}

func TestPostOfNoughtChangesNothing(t *testing.T) {
	for _, l := range []ledger.Ledger{of(), of(-5, 5), of(1, 2, 3, 4, 5), of(most, least, most, least, most), of(least, most, least, most, least)} {
		for from := range 5 {
			mustPost(t, posting{l, from, (from + 1) % 5, 0}, l)
			mustPost(t, posting{l, (from + 3) % 5, from, 0}, l)
		}
	}
}

func TestPostGoesToTheLimits(t *testing.T) {
	for from := range 5 {
		to := (from + 2) % 5
		two := func(a, b int64) ledger.Ledger { return with(with(of(7, 7, 7, 7, 7), from, a), to, b) }
		for _, c := range []struct{ a, b, sum, less, more int64 }{
			{0, 0, most, least, most}, {0, 0, most - 1, least + 1, most - 1},
			{most, 0, most, 0, most}, {0, least, most, least, 0}, {most, least, most, 0, 0},
			{least + 1, 0, 1, least, 1}, {least + 5, 0, 5, least, 5}, {-1, 0, most - 1, least, most - 1},
			{0, most - 1, 1, -1, most}, {0, most - 5, 5, -5, most}, {0, 1, most - 1, -most + 1, most},
			{most, most - 1, 1, most - 1, most}, {least + 1, least, 1, least, least + 1},
			{least + 1, most - 1, 1, least, most}, {least, most, 0, least, most}, {most, least, 0, most, least},
		} {
			mustPost(t, posting{two(c.a, c.b), from, to, c.sum}, two(c.less, c.more))
		}
	}
}

// What the other three have isn't asked, and is left as it is.
func TestPostDoesNotAskOtherAccounts(t *testing.T) {
	for from := range 5 {
		for _, step := range []int{1, 2, 3, 4} {
			to := (from + step) % 5
			for _, wrong := range wrongHaves() {
				l := with(with(of(wrong, wrong, wrong, wrong, wrong), from, 10), to, 20)
				mustPost(t, posting{l, from, to, 3}, with(with(l, from, 7), to, 23))
				mustPost(t, posting{l, from, to, 0}, l)
				l = with(with(l, from, most), to, least)
				mustPost(t, posting{l, from, to, most}, with(with(l, from, 0), to, 0))
			}
		}
	}
}
