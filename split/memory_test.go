package split_test

import (
	"slices"
	"sync"
	"testing"

	"recoup/split"
)

// spoil writes over all of a list, its spare room too.
func spoil(l []int64) {
	for k := range l[:cap(l)] {
		l[:cap(l)][k] = -77
	}
}

// someWeights are shared, or refused, in each way.
func someWeights() [][]int64 {
	return [][]int64{list(1, 1, 1), list(0, 0, 0), list(0), list(7), list(3, 1, 2), list(0, 5), list(5, 1, 4, 9), list(), list(1, -1), list(most, 1), list(most+1, 2)}
}

func TestWeightsAreLeftAsTheyAre(t *testing.T) {
	for _, weights := range someWeights() {
		for _, sum := range list(0, 1, 100, most, -1, most+1) {
			all := append(slices.Clone(weights), 7, most, smallest)
			before := slices.Clone(all)
			got, _ := split.Shares(sum, all[:len(weights)])
			if !slices.Equal(all, before) {
				t.Error(sum, before, "are now", all)
			}
			spoil(got)
			if !slices.Equal(all, before) {
				t.Error(sum, before, "are now, by a write to the answer,", all)
			}
		}
	}
}

func TestSpareRoomOfWeightsIsNotRead(t *testing.T) {
	all := list(1, 1, 100, greatest, smallest)
	mustShare(t, 3, all[:2], list(2, 1))
	mustShare(t, 3, all[:1], list(3))
	mustShare(t, 101, all[1:3], list(1, 100))
	mustNotShare(t, 3, all[:0], 1)
}

func TestNothingIsKeptOfWeights(t *testing.T) {
	weights := list(1, 2, 3)
	got, e := split.Shares(10, weights)
	spoil(weights)
	mustBe(t, got, e, list(2, 3, 5))
	copy(weights, list(3, 2, 1))
	mustShare(t, 10, weights, list(5, 3, 2))
	mustShare(t, 10, list(1, 2, 3), list(2, 3, 5))
}

func TestAnswersAreNewMemory(t *testing.T) {
	for _, weights := range someWeights() {
		first, e := split.Shares(100, weights)
		before := slices.Clone(first)
		second, _ := split.Shares(100, weights)
		spoil(second)
		mustSame(t, first, before)
		third, f := split.Shares(100, weights)
		mustSame(t, third, before)
		if e != f {
			t.Error(weights, e, f)
		}
	}
	for _, n := range []int{1, 2, 3, 199, 200} {
		first, _ := split.Each(100, n)
		before := slices.Clone(first)
		second, _ := split.Each(100, n)
		spoil(second)
		mustSame(t, first, before)
		mustEach(t, 100, n, before)
	}
}

func mustSame(t *testing.T, got, want []int64) {
	t.Helper()
	if !slices.Equal(got, want) {
		t.Error(got, "was", want)
	}
}

// Nothing is kept from call to call: what was refused or told before doesn't
// matter, nor who else asks.
func TestAnswersHangOnTheArgumentsAlone(t *testing.T) {
	var all sync.WaitGroup
	shared := someWeights()
	for range 4 {
		all.Go(func() {
			for range 200 {
				for _, weights := range shared {
					mustBeDue(t, 100, weights)
					mustBeDue(t, most+1, weights)
				}
				mustEach(t, 11, 4, list(3, 3, 3, 2))
				mustNotEach(t, 11, 0, 1)
			}
		})
	}
	all.Wait()
}
