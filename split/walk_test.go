package split_test

import (
	"math/big"
	"math/rand"
	"testing"

	"recoup/split"
)

// someWeightsOf are as often light as heavy, few as many; some are 0, and some
// the same. Together they are seldom above MaxCents.
func someWeightsOf(r *rand.Rand) []int64 {
	weights := make([]int64, 1+r.Intn(200)>>r.Intn(8))
	bits := 1 + r.Intn(50)
	room := int64(most / len(weights))
	for k := range weights {
		switch r.Intn(6) {
		case 0:
		case 1:
			weights[k] = weights[r.Intn(k+1)]
		default:
			weights[k] = min(r.Int63n(1<<bits), room)
		}
	}
	return weights
}

func someSum(r *rand.Rand) int64 { return r.Int63n(most+1) >> r.Intn(51) }

func TestSharesAreDue(t *testing.T) {
	r := rand.New(rand.NewSource(6))
	for range 20000 {
		sum, weights := someSum(r), someWeightsOf(r)
		if dueError(sum, weights) != 0 {
			t.Fatal(sum, weights)
		}
		mustBeDue(t, sum, weights)
	}
}

// Short lists of small numbers, all of them: here rests are often the same.
func TestSharesOfSmallNumbersAreDue(t *testing.T) {
	for sum := range int64(12) {
		for code := range 6 * 6 * 6 * 6 {
			weights := list(int64(code%6), int64(code/6%6), int64(code/36%6), int64(code/216))
			for n := range 4 {
				mustBeDue(t, sum, weights[:n+1])
			}
		}
	}
}

// One of the numbers is changed to another, most often a wrong one.
func TestWrongInputsAreDue(t *testing.T) {
	r := rand.New(rand.NewSource(7))
	for range 20000 {
		sum, weights := someSum(r), someWeightsOf(r)
		wrong := wrongSums()[r.Intn(len(wrongSums()))]
		switch r.Intn(4) {
		case 0:
			sum = wrong
		case 1:
			weights = append(weights, most-someSum(r))
		case 2:
			weights = append(weights, same(r.Intn(300), r.Int63n(9)-1)...)
		}
		if r.Intn(3) == 0 {
			weights[r.Intn(len(weights))] = wrong
		}
		mustBeDue(t, sum, weights)
	}
}

// What follows: shares come to the sum, and each is by less than 1 what it
// would be.
func TestSharesComeToTheSum(t *testing.T) {
	r := rand.New(rand.NewSource(8))
	for range 20000 {
		sum, weights := someSum(r), someWeightsOf(r)
		shares, e := split.Shares(sum, weights)
		if e != 0 || len(shares) != len(weights) || together(shares).Cmp(number(sum)) != 0 {
			t.Fatal(sum, weights, shares, e)
		}
		if together(weights).Sign() == 0 {
			weights = same(len(weights), 1)
		}
		mustBeNear(t, sum, weights, shares)
	}
}

// mustBeNear holds each share, times all, against the sum times its weight.
func mustBeNear(t *testing.T, sum int64, weights, shares []int64) {
	t.Helper()
	all := together(weights)
	for k, s := range shares {
		off := new(big.Int).Mul(number(s), all)
		off.Sub(off, new(big.Int).Mul(number(sum), number(weights[k])))
		if off.CmpAbs(all) >= 0 || s < 0 {
			t.Fatal(sum, weights, shares, "at", k)
		}
	}
}
