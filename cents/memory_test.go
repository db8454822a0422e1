package cents_test

import (
	"slices"
	"sync"
	"testing"

	"recoup/cents"
)

func TestSumLeavesItsListAsItIs(t *testing.T) {
	for _, c := range [][]int64{{}, {1}, {1, 2, -5}, {most, 1, -1}, {5, greatest, 2}, {smallest}} {
		all := append(slices.Clone(c), 7, most, smallest)
		before := slices.Clone(all)
		cents.Sum(all[:len(c)])
		if !slices.Equal(all, before) {
			t.Error(before, "is now", all)
		}
	}
}

func TestSumDoesNotReadItsSpareRoom(t *testing.T) {
	all := []int64{1, 2, 100, greatest}
	must(t, "Sum", told(cents.Sum(all[:2])), answer{3, 0})
	must(t, "Sum", told(cents.Sum(all[:0])), answer{0, 0})
	must(t, "Sum", told(cents.Sum(all[1:3])), answer{102, 0})
}

func TestSumKeepsNothingOfItsList(t *testing.T) {
	l := []int64{1, 2}
	must(t, "Sum", told(cents.Sum(l)), answer{3, 0})
	l[0] = 40
	must(t, "Sum", told(cents.Sum(l)), answer{42, 0})
	must(t, "Sum", told(cents.Sum(nil)), answer{0, 0})
}

// Nothing is kept from call to call: what was refused or told before doesn't
// matter, nor who else asks.
func TestAnswersHangOnTheArgumentsAlone(t *testing.T) {
	var all sync.WaitGroup
	for range 4 {
		all.Go(func() {
			for range 20 {
				for _, a := range edges() {
					for _, b := range []int64{0, 1, -1, 3, 10000, most, least, greatest, smallest} {
						mustAllOfTwo(t, a, b)
						must(t, "Part", told(cents.Part(a, b, 7)), duePart(a, b, 7), a, b, 7)
					}
				}
			}
		})
	}
	all.Wait()
}
