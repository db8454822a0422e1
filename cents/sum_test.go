package cents_test

import (
	"slices"
	"testing"

	"recoup/api"
	"recoup/cents"
)

func TestSumTellsAllTogether(t *testing.T) {
	for _, c := range []struct {
		l    []int64
		want int64
	}{
		{[]int64{5}, 5}, {[]int64{-5}, -5}, {[]int64{1, 2, -5}, -2}, {[]int64{1, 2, 3, 4}, 10}, {[]int64{0, 0}, 0}, {[]int64{3, 3, 3}, 9},
		{[]int64{most}, most}, {[]int64{least}, least}, {[]int64{most, -1, 1}, most}, {[]int64{least, 1, -1}, least},
		{[]int64{most, least, least}, least}, {[]int64{least, most, most}, most}, {[]int64{most - 1, 1, 0}, most},
		{[]int64{most / 2, most / 2, least / 2, least / 2, least / 2, least / 2}, least}, {[]int64{0, most}, most}, {[]int64{1, least}, least + 1},
	} {
		must(t, "Sum", told(cents.Sum(c.l)), answer{c.want, api.OK}, c.l)
	}
}

func TestSumOfNoSumsIsNought(t *testing.T) {
	var none [3]int64
	for _, l := range [][]int64{nil, {}, make([]int64, 0, 5), none[:0]} {
		must(t, "Sum", told(cents.Sum(l)), answer{0, api.OK}, l)
	}
}

func TestSumThatIsBeyondIsRefused(t *testing.T) {
	for _, l := range [][]int64{
		{most, 1}, {1, most}, {most, most}, {least, -1}, {-1, least}, {least, least},
		{1, 2, most}, {-1, -2, least}, {most / 2, most / 2, 1}, {least / 2, least / 2, -1}, {most, 0, 0, 1},
	} {
		must(t, "Sum", told(cents.Sum(l)), refused(api.ErrMoney), l)
	}
}

// In the end what comes of these is right; at least once on the way it isn't.
func TestSumThatIsBeyondOnTheWayIsRefused(t *testing.T) {
	for _, l := range [][]int64{
		{most, 1, -1}, {1, most, -1}, {-1, least, 1}, {least, -1, 1}, {most, most, least}, {most, most, least, least},
		{least, least, most}, {5, -5, most, 1, -2, 1}, {most, 1, -1, 0}, {most / 2, most/2 + 1, least}, {most, 1, least, 3},
	} {
		must(t, "Sum", told(cents.Sum(l)), refused(api.ErrMoney), l)
	}
	// It is from the first one on that they are put together, not from the last.
	must(t, "Sum", told(cents.Sum([]int64{-1, 1, most})), answer{most, api.OK})
	must(t, "Sum", told(cents.Sum([]int64{most, 1, -1})), refused(api.ErrMoney))
	must(t, "Sum", told(cents.Sum([]int64{least, 1, most, -2})), answer{-1, api.OK})
}

// As many ones beyond the way as make the numbers of a machine wrap round.
func TestSumThatWrapsRoundIsRefused(t *testing.T) {
	for _, a := range []int64{most, least} {
		l := slices.Repeat([]int64{a}, 1<<14)
		must(t, "Sum", told(cents.Sum(l)), refused(api.ErrMoney), "so many of", a)
		must(t, "Sum", told(cents.Sum(append(l, 7))), refused(api.ErrMoney), "so many of", a)
	}
}

func TestSumOfAWrongSumIsRefused(t *testing.T) {
	for _, a := range wrongSums() {
		for _, l := range [][]int64{
			{a}, {0, a}, {a, 0}, {a, -a}, {-a, a}, {5, a, -a}, {1, 2, a}, {a, a}, {least, a}, {most, a}, {a, 5 - a}, {5, a, 5 - a},
		} {
			must(t, "Sum", told(cents.Sum(l)), refused(api.ErrMoney), l)
		}
	}
	// Together with what was ahead these would be right.
	must(t, "Sum", told(cents.Sum([]int64{-1, most + 1})), refused(api.ErrMoney))
	must(t, "Sum", told(cents.Sum([]int64{1, least - 1})), refused(api.ErrMoney))
	must(t, "Sum", told(cents.Sum([]int64{least, 2 * most})), refused(api.ErrMoney))
	must(t, "Sum", told(cents.Sum([]int64{most, -2 * most})), refused(api.ErrMoney))
	must(t, "Sum", told(cents.Sum([]int64{most + 1, -1})), refused(api.ErrMoney))
}

func TestSumOfManyIsTold(t *testing.T) {
	const many = 1 << 20
	must(t, "Sum", told(cents.Sum(slices.Repeat([]int64{-3}, many))), answer{-3 * many, api.OK})
	l := slices.Repeat([]int64{most / many}, many)
	must(t, "Sum", told(cents.Sum(l)), answer{most, api.OK})
	must(t, "Sum", told(cents.Sum(append(l, 1))), refused(api.ErrMoney))
}

func TestSumOfAllEdges(t *testing.T) {
	for _, a := range edges() {
		for _, b := range edges() {
			for _, c := range edges() {
				l := []int64{a, b, c}
				must(t, "Sum", told(cents.Sum(l)), dueSum(l), l)
			}
		}
	}
}
