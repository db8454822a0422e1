package split_test

import (
	"testing"

	"recoup/api"
)

// wrongSums aren't from 0 to MaxCents; some of them are, if they wrap round, or
// lose their upper half or their sign.
func wrongSums() []int64 {
	return list(-1, -2, -100, -most, -most-1, most+1, most+2, 1<<51, 1<<52, 1<<62, 1<<62+1, greatest-1, greatest, smallest, smallest+1, smallest+5)
}

// rightSums are some, with both ends.
func rightSums() []int64 { return list(0, 1, 2, 100, most-1, most) }

func TestSharesByNoWeightsAreRefused(t *testing.T) {
	var none [3]int64
	for _, weights := range [][]int64{nil, {}, make([]int64, 0, 5), none[:0]} {
		for _, sum := range append(wrongSums(), rightSums()...) {
			mustNotShare(t, sum, weights, api.ErrArg)
		}
	}
}

func TestSharesByTooManyWeightsAreRefused(t *testing.T) {
	for _, n := range []int{201, 202, 256, 257, 1000, 1 << 16, 1<<16 + 1} {
		for _, w := range list(0, 1, 5, most, most+1, -1) {
			for _, sum := range list(0, 1, most, -1, most+1, greatest, smallest) {
				mustNotShare(t, sum, same(n, w), api.ErrArg)
			}
		}
	}
}

func TestSharesByAWrongWeightAreRefused(t *testing.T) {
	for _, w := range wrongSums() {
		for _, weights := range [][]int64{
			{w}, {w, 1}, {1, w}, {0, w}, {0, 0, w}, {1, w, 1}, {w, w},
			// Together these would be right.
			{w, -w}, {-w, w}, {w, 5 - w}, {5 - w, w}, {5, w, -w},
			append(same(199, 0), w), append(list(w), same(199, 1)...),
		} {
			for _, sum := range rightSums() {
				mustNotShare(t, sum, weights, api.ErrArg)
			}
		}
	}
}

func TestSharesOfAWrongSumAreRefused(t *testing.T) {
	for _, sum := range wrongSums() {
		for _, weights := range [][]int64{
			list(1), list(0), list(most), list(1, 1), list(0, 0), list(0, 1), list(most-1, 1), same(200, 0), same(200, 1), same(200, most/200),
		} {
			mustNotShare(t, sum, weights, api.ErrMoney)
		}
	}
}

func TestSharesByWeightsThatAreTooMuchTogetherAreRefused(t *testing.T) {
	for _, weights := range [][]int64{
		list(most, 1), list(1, most), list(most, most), list(most/2, most/2+1), list(most/2, 1, most/2), list(most, 0, 0, 1), list(0, most, 0, 1, 0),
		same(200, most), same(200, most/200+1), append(same(199, 1), most-198), append(list(most-198), same(199, 1)...), same(128, most), same(64, most), same(16, most),
	} {
		for _, sum := range append(wrongSums(), rightSums()...) {
			mustNotShare(t, sum, weights, api.ErrMoney)
		}
	}
}

func TestSharesByWeightsThatAreMaxCentsTogetherAreTold(t *testing.T) {
	for _, weights := range [][]int64{
		list(most), list(most, 0), list(0, 0, most, 0), list(most-1, 1), list(1, most-1), list(most/2, most/2), list(most/2, 1, most/2-1),
		append(same(199, 1), most-199), append(list(most-199), same(199, 1)...), append(same(199, 0), most), same(128, most/128),
	} {
		mustShare(t, most, weights, weights)
		mustShare(t, 0, weights, same(len(weights), 0))
	}
}

// Whatever the sum is, and all weights together are: the weights, their number
// and each of them alone, are asked first.
func TestWrongWeightsGoAheadOfWrongSums(t *testing.T) {
	for _, weights := range [][]int64{
		nil, {}, same(201, 0), same(201, 1), same(201, most), same(300, greatest),
		list(-1), list(most + 1), list(greatest), list(smallest), list(1, -1), list(1, most+1),
		list(most, most, -1), list(-1, most, most), list(most, most+1), list(most+1, most), list(most, most, smallest), list(greatest, greatest), list(smallest, smallest),
		list(greatest, greatest, 2), list(1, 1, 1, -3), list(0, 0, -1), append(same(199, most), -1), append(same(199, most), most+1),
	} {
		for _, sum := range append(wrongSums(), rightSums()...) {
			mustNotShare(t, sum, weights, api.ErrArg)
		}
	}
}
