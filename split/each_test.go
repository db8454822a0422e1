package split_test

import (
	"testing"

	"recoup/api"
	"recoup/split"
)

func mustEach(t *testing.T, sum int64, n int, want []int64) {
	t.Helper()
	got, e := split.Each(sum, n)
	mustBe(t, got, e, want, sum, n)
}

func mustNotEach(t *testing.T, sum int64, n int, want api.Errno) {
	t.Helper()
	got, e := split.Each(sum, n)
	mustRefuse(t, got, e, want, sum, n)
}

func TestEachHasTheSameOrOneMore(t *testing.T) {
	for _, c := range []struct {
		sum  int64
		want []int64
	}{
		{11, list(3, 3, 3, 2)}, {12, list(3, 3, 3, 3)}, {13, list(4, 3, 3, 3)}, {100, list(34, 33, 33)}, {5, list(3, 2)}, {6, list(3, 3)},
		{1, list(1, 0)}, {1, list(1, 0, 0, 0, 0)}, {4, list(1, 1, 1, 1, 0)}, {0, list(0, 0, 0)}, {0, list(0)}, {1, list(1)}, {999, list(999)}, {most, list(most)},
		{most, list(most/2, most/2)}, {most - 1, list(most/2, most/2-1)}, {most, list(most/3+1, most/3, most/3)},
	} {
		mustEach(t, c.sum, len(c.want), c.want)
	}
	want := same(200, 5629499534213)
	for k := range 24 {
		want[k]++
	}
	mustEach(t, most, 200, want)
	mustEach(t, 0, 200, same(200, 0))
	mustEach(t, 199, 200, append(same(199, 1), 0))
	mustEach(t, 200, 200, same(200, 1))
}

func TestEachOfAWrongNumberIsRefused(t *testing.T) {
	for _, n := range []int{0, -1, -2, -200, 201, 202, 257, 1 << 16, 1<<16 + 1, 1 << 32, 1<<32 + 1, 1<<32 + 200, 1 << 62, greatest, greatest - 1, smallest, smallest + 1} {
		// It is asked first, whatever the sum is.
		for _, sum := range append(wrongSums(), rightSums()...) {
			mustNotEach(t, sum, n, api.ErrArg)
		}
	}
}

func TestEachOfAWrongSumIsRefused(t *testing.T) {
	for _, n := range []int{1, 2, 3, 100, 199, 200} {
		for _, sum := range wrongSums() {
			mustNotEach(t, sum, n, api.ErrMoney)
		}
	}
}

func TestEachIsDue(t *testing.T) {
	for n := 1; n <= 200; n++ {
		for _, sum := range []int64{0, 1, int64(n) - 1, int64(n), int64(n) + 1, 7*int64(n) - 1, 1000, 1 << 32, most / 7, most - 1, most} {
			mustEach(t, sum, n, dueShares(sum, same(n, 1)))
		}
	}
}
