package split_test

import (
	"testing"

	"recoup/api"
)

func TestLimitsAreTheDocuments(t *testing.T) {
	if api.MaxCents != most || api.MaxUnits != 200 {
		t.Error(api.MaxCents, api.MaxUnits)
	}
}

func TestSharesAreByWeights(t *testing.T) {
	for _, c := range []struct {
		sum           int64
		weights, want []int64
	}{
		// Nothing is left.
		{6, list(1, 2, 3), list(1, 2, 3)}, {60, list(3, 2, 1), list(30, 20, 10)}, {100, list(25, 25, 50), list(25, 25, 50)},
		{4, list(100, 300), list(1, 3)}, {10, list(5, 5), list(5, 5)}, {1000, list(1, 999), list(1, 999)},
		// One is left, for the one that leaves the most, wherever it is.
		{100, list(1, 1, 1), list(34, 33, 33)}, {10, list(1, 2, 3), list(2, 3, 5)}, {10, list(3, 2, 1), list(5, 3, 2)}, {10, list(3, 1, 2), list(5, 2, 3)},
		{1, list(1, 2), list(0, 1)}, {1, list(2, 1), list(1, 0)}, {1, list(1, 1, 2, 1), list(0, 0, 1, 0)}, {199, list(100, 100), list(100, 99)},
		// A small weight may leave more than a great one.
		{7, list(6, 1), list(6, 1)}, {9, list(90, 9, 1), list(8, 1, 0)}, {3, list(5, 1), list(3, 0)}, {4, list(5, 1), list(3, 1)},
		{5, list(3, 1), list(4, 1)}, {3, list(1, 3), list(1, 2)}, {3, list(3, 1), list(2, 1)}, {5, list(1, 6, 11), list(0, 2, 3)}, {3, list(4, 1, 7), list(1, 0, 2)},
		{3, list(1, 5, 6), list(0, 1, 2)}, {1, list(2, 2, 4), list(0, 0, 1)}, {8, list(1, 99), list(0, 8)}, {51, list(1, 99), list(1, 50)}, {11, list(4, 40), list(1, 10)},
		// More than one are left.
		{2, list(3, 3, 4), list(1, 0, 1)}, {5, list(1, 1, 1), list(2, 2, 1)}, {8, list(2, 3, 4, 5), list(1, 2, 2, 3)},
		{3, list(1, 2, 3, 4), list(0, 1, 1, 1)}, {13, list(1, 2, 4, 8, 16), list(0, 1, 2, 3, 7)}, {4, list(9, 8, 7, 6, 5), list(1, 1, 1, 1, 0)},
	} {
		mustShare(t, c.sum, c.weights, c.want)
	}
}

func TestOfTheSameTheFirstOnesGetOneMore(t *testing.T) {
	for _, c := range []struct {
		sum           int64
		weights, want []int64
	}{
		{1, list(1, 1), list(1, 0)}, {1, list(9, 9, 9), list(1, 0, 0)}, {2, list(9, 9, 9), list(1, 1, 0)}, {11, list(5, 5, 5, 5), list(3, 3, 3, 2)},
		{1, list(1, 2, 2), list(0, 1, 0)}, {2, list(1, 2, 2), list(0, 1, 1)}, {1, list(2, 2, 1), list(1, 0, 0)}, {1, list(2, 1, 2), list(1, 0, 0)},
		{3, list(1, 2, 2, 1), list(1, 1, 1, 0)}, {4, list(3, 1, 3, 1), list(2, 1, 1, 0)}, {2, list(1, 3, 1, 3), list(0, 1, 0, 1)},
		// They leave the same, though they aren't the same.
		{2, list(1, 3), list(1, 1)}, {2, list(3, 1), list(2, 0)}, {9, list(1, 5, 6), list(1, 4, 4)}, {9, list(6, 5, 1), list(4, 4, 1)},
		{3, list(2, 6, 4), list(1, 1, 1)}, {3, list(6, 2, 4), list(2, 0, 1)}, {3, list(4, 6, 2), list(1, 2, 0)},
	} {
		mustShare(t, c.sum, c.weights, c.want)
	}
	// Many, as some ways to put in order keep the first ones ahead only of few.
	want := same(200, 3)
	for k := range 77 {
		want[k]++
	}
	mustShare(t, 677, same(200, 12345), want)
	mustShare(t, 677, same(200, 0), want)
}

func TestWeightOfNoughtHasAShareOfNought(t *testing.T) {
	for _, c := range []struct {
		sum           int64
		weights, want []int64
	}{
		{7, list(0, 1), list(0, 7)}, {7, list(1, 0), list(7, 0)}, {most, list(0, most, 0), list(0, most, 0)}, {1, list(0, 1, 1), list(0, 1, 0)},
		{5, list(0, 1, 0, 1, 0, 1), list(0, 2, 0, 2, 0, 1)}, {most, list(0, 0, 1), list(0, 0, most)}, {2, list(0, 0, 0, 5, 5, 5), list(0, 0, 0, 1, 1, 0)},
	} {
		mustShare(t, c.sum, c.weights, c.want)
	}
}

func TestIfAllWeightsAreNoughtTheyAreAsIfEachWereOne(t *testing.T) {
	for _, c := range []struct {
		sum  int64
		want []int64
	}{
		{5, list(5)}, {0, list(0)}, {most, list(most)}, {5, list(3, 2)}, {4, list(2, 2)}, {1, list(1, 0)}, {0, list(0, 0)},
		{1, list(1, 0, 0)}, {2, list(1, 1, 0)}, {3, list(1, 1, 1)}, {100, list(34, 33, 33)}, {most, list(most/2, most/2)}, {most - 1, list(most/2, most/2-1)},
	} {
		mustShare(t, c.sum, same(len(c.want), 0), c.want)
	}
}

func TestOneWeightHasTheSum(t *testing.T) {
	for _, w := range list(0, 1, 2, 3, 999, most-1, most) {
		for _, sum := range list(0, 1, 2, 999, most/3, most-1, most) {
			mustShare(t, sum, list(w), list(sum))
		}
	}
}

func TestSumOfNoughtIsShared(t *testing.T) {
	for _, weights := range [][]int64{
		list(0), list(1), list(most), list(1, 2, 3), list(0, 0), list(most-1, 1), list(0, most), same(200, 0), same(200, 1), same(200, most/200),
	} {
		mustShare(t, 0, weights, same(len(weights), 0))
	}
}

func TestGreatestSumsAndWeightsAreShared(t *testing.T) {
	for _, c := range []struct {
		sum           int64
		weights, want []int64
	}{
		{most, list(most/2, most/2), list(most/2, most/2)}, {most, list(most-1, 1), list(most-1, 1)}, {most, list(1, most-1), list(1, most-1)},
		{most, list(most, 0), list(most, 0)}, {most, list(0, most), list(0, most)}, {1, list(most-1, 1), list(1, 0)}, {1, list(1, most-1), list(0, 1)},
		{most - 1, list(most-1, 1), list(most-2, 1)}, {most - 1, list(1, most-1), list(1, most-2)}, {most - 1, list(most/2, most/2), list(most/2, most/2-1)},
		{most/2 + 1, list(most-1, 1), list(most/2, 1)}, {most / 2, list(most-1, 1), list(most/2, 0)}, {most / 2, list(1, most-1), list(1, most/2-1)},
		{most, list(1, 1, 1), list(most/3+1, most/3, most/3)}, {most - 1, list(1, 1, 1), list(most/3, most/3, most/3)},
		// What they leave has more than 32 bits; of the first two the lower half is the same.
		{1, list(1<<32+1, 1<<33+1), list(0, 1)}, {1, list(1<<32, 1<<33, 0), list(0, 1, 0)}, {1, list(1<<33-1, 1<<33), list(0, 1)}, {2, list(1<<31, 1<<40, 1<<31+1), list(0, 2, 0)},
		{1, list(1<<49-1, 1<<49), list(0, 1)}, {1, list(1<<49-1, 1<<49-2, 3), list(1, 0, 0)},
	} {
		mustShare(t, c.sum, c.weights, c.want)
	}
}

// All of them leave nearly a whole one: the great one the least, but so near to
// it that floats would make a whole one of it.
func TestSharesAreToldToTheLastBit(t *testing.T) {
	const sum = 1103838102008854
	mustShare(t, sum, append(list(most-48), same(16, 3)...), append(list(sum-48), same(16, 3)...))
	mustShare(t, sum, append(same(16, 3), most-48), append(same(16, 3), sum-48))
}

func TestGreatestNumberOfWeightsIsShared(t *testing.T) {
	want := same(200, 5629499534213)
	for k := range 24 {
		want[k]++
	}
	mustShare(t, most, same(200, 1), want)
	mustShare(t, most, same(200, 0), want)
	mustShare(t, most, same(200, 5629499534213), want)
	// All together are MaxCents: each gets its weight.
	mustShare(t, most, want, want)
	// Only the last one weighs.
	last := append(same(199, 0), 3)
	mustShare(t, most, last, append(same(199, 0), most))
	mustShare(t, 1, append(same(199, 1), 2), append(same(199, 0), 1))
	mustShare(t, 199, append(same(199, 1), 0), append(same(199, 1), 0))
}

func TestSharesOfAllEdges(t *testing.T) {
	edges := list(smallest, smallest+1, -most-1, -most, -2, -1, 0, 1, 2, 3, 10, 200, 1<<31, 1<<32+1, most/3, most/2, most/2+1, most-2, most-1, most, most+1, most+2, 1<<51, 1<<62, greatest-1, greatest)
	for _, sum := range edges {
		for _, a := range edges {
			mustBeDue(t, sum, list(a))
			for _, b := range edges {
				mustBeDue(t, sum, list(a, b))
				for _, c := range edges {
					mustBeDue(t, sum, list(a, b, c))
				}
			}
		}
	}
}
