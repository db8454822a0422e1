package ledger_test

import (
	"slices"
	"testing"

	"recoup/api"
)

// allSums are right ones, too great ones and such as are below 0.
func allSums() []int64 { return slices.Concat(rightSums(), highSums(), lowSums()) }

// It is asked first, whatever the sum is and the accounts have.
func TestPostOfNoAccountIsRefused(t *testing.T) {
	for _, none := range noAccounts() {
		for _, l := range someLedgers() {
			for _, sum := range allSums() {
				for account := range 5 {
					mustNotPost(t, posting{l, none, account, sum}, api.ErrArg)
					mustNotPost(t, posting{l, account, none, sum}, api.ErrArg)
				}
				mustNotPost(t, posting{l, none, none, sum}, api.ErrArg)
				mustNotPost(t, posting{l, none, -none, sum}, api.ErrArg)
				mustNotPost(t, posting{l, none, 5, sum}, api.ErrArg)
				mustNotPost(t, posting{l, -1, none, sum}, api.ErrArg)
			}
		}
	}
}

func TestPostToTheSameAccountIsRefused(t *testing.T) {
	for account := range 5 {
		for _, l := range someLedgers() {
			for _, sum := range allSums() {
				mustNotPost(t, posting{l, account, account, sum}, api.ErrArg)
			}
		}
	}
}

// Of these many aren't right either, and many accounts have, or would have, a
// sum that isn't: below 0 is asked first.
func TestPostOfASumBelowNoughtIsRefused(t *testing.T) {
	for _, sum := range lowSums() {
		for _, l := range someLedgers() {
			for from := range 5 {
				mustNotPost(t, posting{l, from, (from + 1) % 5, sum}, api.ErrArg)
				mustNotPost(t, posting{l, from, (from + 3) % 5, sum}, api.ErrArg)
			}
		}
		// What both would have is right, or would be if it wrapped round.
		mustNotPost(t, posting{of(sum, -sum), 0, 1, sum}, api.ErrArg)
		mustNotPost(t, posting{of(0, 0, least, most), 2, 3, sum}, api.ErrArg)
	}
}

func TestPostOfAWrongSumIsRefused(t *testing.T) {
	for _, sum := range highSums() {
		for _, l := range someLedgers() {
			for from := range 5 {
				mustNotPost(t, posting{l, from, (from + 1) % 5, sum}, api.ErrMoney)
				mustNotPost(t, posting{l, from, (from + 3) % 5, sum}, api.ErrMoney)
			}
		}
		// With some of these what both would have is right.
		mustNotPost(t, posting{of(most, least), 0, 1, sum}, api.ErrMoney)
		mustNotPost(t, posting{of(0, 0, 0, least+sum-5, 5-sum), 3, 4, sum}, api.ErrMoney)
		mustNotPost(t, posting{of(sum, -sum), 0, 1, sum}, api.ErrMoney)
	}
}

func TestPostOfAnAccountThatHasAWrongSumIsRefused(t *testing.T) {
	for _, wrong := range wrongHaves() {
		for account := range 5 {
			for step := 1; step < 5; step++ {
				other, l := (account+step)%5, with(of(), account, wrong)
				for _, sum := range rightSums() {
					mustNotPost(t, posting{l, account, other, sum}, api.ErrMoney)
					mustNotPost(t, posting{l, other, account, sum}, api.ErrMoney)
					mustNotPost(t, posting{with(l, other, wrong), account, other, sum}, api.ErrMoney)
					mustNotPost(t, posting{with(l, other, -wrong), other, account, sum}, api.ErrMoney)
				}
			}
		}
	}
}

// The posting would make it right.
func TestPostThatWouldMendAnAccountIsRefused(t *testing.T) {
	for _, sum := range []int64{1, 2, 5, most - 1, most} {
		mustNotPost(t, posting{of(most + 1), 0, 1, sum}, api.ErrMoney)
		mustNotPost(t, posting{of(most + sum), 0, 1, sum}, api.ErrMoney)
		mustNotPost(t, posting{of(0, least-1), 0, 1, sum}, api.ErrMoney)
		mustNotPost(t, posting{of(0, least-sum), 0, 1, sum}, api.ErrMoney)
		mustNotPost(t, posting{of(0, 0, 0, most+1, least-1), 3, 4, sum}, api.ErrMoney)
	}
}

func TestPostThatWouldLeaveTooLittleIsRefused(t *testing.T) {
	for from := range 5 {
		to := (from + 1) % 5
		for _, c := range [][2]int64{{least, 1}, {least, 2}, {least, most}, {least + 1, 2}, {least + 5, 6}, {-1, most}, {-2, most - 1}, {-2, most}, {least / 2, most/2 + 1}} {
			l := with(of(3, 3, 3, 3, 3), from, c[0])
			mustNotPost(t, posting{with(l, to, 0), from, to, c[1]}, api.ErrMoney)
			mustNotPost(t, posting{with(l, to, least), from, to, c[1]}, api.ErrMoney)
		}
	}
}

func TestPostThatWouldGiveTooMuchIsRefused(t *testing.T) {
	for from := range 5 {
		to := (from + 4) % 5
		for _, c := range [][2]int64{{most, 1}, {most, 2}, {most, most}, {most - 1, 2}, {most - 5, 6}, {1, most}, {2, most - 1}, {2, most}, {most / 2, most/2 + 1}} {
			l := with(of(3, 3, 3, 3, 3), to, c[0])
			mustNotPost(t, posting{with(l, from, 0), from, to, c[1]}, api.ErrMoney)
			mustNotPost(t, posting{with(l, from, most), from, to, c[1]}, api.ErrMoney)
		}
	}
}

// All numbers at, and one off, what the document names, in both accounts and
// as the sum.
func TestPostOfAllEdges(t *testing.T) {
	edges := []int64{smallest, smallest + 1, -1 << 62, least - 2, least - 1, least, least + 1, -2, -1, 0, 1, 2, most - 1, most, most + 1, most + 2, 1 << 51, 1 << 62, greatest - 1, greatest}
	for k, a := range edges {
		for _, b := range edges {
			for _, sum := range edges {
				from := k % 5
				mustBeDue(t, posting{with(with(of(1, 2, 3, 4, 5), 4, b), 0, a), 0, 4, sum})
				mustBeDue(t, posting{with(with(of(1, 2, 3, 4, 5), (from+1)%5, b), from, a), from, (from + 1) % 5, sum})
			}
		}
	}
}

func TestPostOfAllEdgesOfAccounts(t *testing.T) {
	accounts := append(noAccounts(), 0, 1, 2, 3, 4)
	for _, from := range accounts {
		for _, to := range accounts {
			for _, sum := range []int64{-1, 0, 1, most, most + 1, greatest, smallest} {
				for _, l := range someLedgers() {
					mustBeDue(t, posting{l, from, to, sum})
				}
			}
		}
	}
}
