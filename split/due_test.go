package split_test

import (
	"math"
	"math/big"
	"slices"
	"testing"

	"recoup/api"
	"recoup/split"
)

const (
	most     = 1 << 50
	greatest = math.MaxInt64
	smallest = math.MinInt64
)

// list is a short way to write sums or weights.
func list(l ...int64) []int64 { return l }

// same is n times one weight.
func same(n int, w int64) []int64 { return slices.Repeat([]int64{w}, n) }

// mustBe checks one answer that isn't refused.
func mustBe(t *testing.T, got []int64, e api.Errno, want []int64, of ...any) {
	t.Helper()
	if e != api.OK || !slices.Equal(got, want) {
		t.Errorf("of %v: %v, %d; want %v", of, got, e, want)
	}
}

// mustRefuse checks one answer that is an error alone.
func mustRefuse(t *testing.T, got []int64, e, want api.Errno, of ...any) {
	t.Helper()
	if e != want || len(got) != 0 {
		t.Errorf("of %v: %v, %d; want error %d alone", of, got, e, want)
	}
}

// mustShare checks the shares of a sum.
func mustShare(t *testing.T, sum int64, weights, want []int64) {
	t.Helper()
	got, e := split.Shares(sum, weights)
	mustBe(t, got, e, want, sum, weights)
}

// mustNotShare checks that there are no shares.
func mustNotShare(t *testing.T, sum int64, weights []int64, want api.Errno) {
	t.Helper()
	got, e := split.Shares(sum, weights)
	mustRefuse(t, got, e, want, sum, weights)
}

// mustBeDue checks the shares, or the error, with what is due.
func mustBeDue(t *testing.T, sum int64, weights []int64) {
	t.Helper()
	if e := dueError(sum, weights); e != 0 {
		mustNotShare(t, sum, weights, e)
		return
	}
	mustShare(t, sum, weights, dueShares(sum, weights))
}

// The dues are told by another hand: with numbers of any length, and without
// putting anything in order.

func number(v int64) *big.Int { return big.NewInt(v) }

// beyond tells whether a number isn't from 0 to MaxCents.
func beyond(v *big.Int) bool { return v.Sign() < 0 || v.Cmp(number(most)) > 0 }

func together(l []int64) *big.Int {
	all := new(big.Int)
	for _, w := range l {
		all.Add(all, number(w))
	}
	return all
}

func dueError(sum int64, weights []int64) api.Errno {
	if len(weights) == 0 || len(weights) > 200 {
		return 1
	}
	for _, w := range weights {
		if beyond(number(w)) {
			return 1
		}
	}
	if beyond(number(sum)) || beyond(together(weights)) {
		return 9
	}
	return 0
}

// dueShares gives one more to each share that fewer others go ahead of than
// there is left.
func dueShares(sum int64, weights []int64) []int64 {
	all := together(weights)
	if all.Sign() == 0 {
		return dueShares(sum, same(len(weights), 1))
	}
	shares, rests := make([]int64, len(weights)), make([]*big.Int, len(weights))
	for k, w := range weights {
		product := new(big.Int).Mul(number(sum), number(w))
		whole, rest := new(big.Int).DivMod(product, all, new(big.Int))
		shares[k], rests[k] = whole.Int64(), rest
	}
	left := sum - together(shares).Int64()
	for k := range shares {
		if int64(ahead(rests, k)) < left {
			shares[k]++
		}
	}
	return shares
}

// ahead tells how many rests go ahead of the one at k.
func ahead(rests []*big.Int, k int) int {
	n := 0
	for j, r := range rests {
		if c := r.Cmp(rests[k]); c > 0 || c == 0 && j < k {
			n++
		}
	}
	return n
}
