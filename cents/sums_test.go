package cents_test

import (
	"testing"

	"recoup/api"
	"recoup/cents"
)

func TestMaxCentsIsTheLimit(t *testing.T) {
	if api.MaxCents != most || api.Points != 10000 {
		t.Error(api.MaxCents, api.Points)
	}
}

// wrongSums are beyond MaxCents or -MaxCents; some of them are right again if
// they wrap round, or lose their upper half or their sign.
func wrongSums() []int64 {
	return []int64{
		most + 1, least - 1, most + 2, least - 2, 1 << 51, -1 << 51, 1 << 52,
		1 << 62, -1 << 62, 1<<62 + 1, greatest, greatest - 1, smallest, smallest + 1, smallest + 5,
	}
}

func TestRightIsFromMinusMaxCentsToMaxCents(t *testing.T) {
	for _, a := range []int64{0, 1, -1, 999, -999, 1 << 31, -1 << 31, 1 << 32, 1 << 49, most - 1, least + 1, most, least} {
		if !cents.Right(a) {
			t.Error(a, "isn't right")
		}
	}
	for _, a := range wrongSums() {
		if cents.Right(a) {
			t.Error(a, "is right")
		}
	}
}

func TestAddTellsBothTogether(t *testing.T) {
	for _, c := range []struct{ a, b, want int64 }{
		{0, 0, 0}, {1, 2, 3}, {-1, -2, -3}, {5, -7, -2}, {-7, 5, -2}, {1 << 32, 1 << 32, 1 << 33},
		{most, 0, most}, {0, most, most}, {most - 1, 1, most}, {1, most - 1, most}, {most, -1, most - 1},
		{least, 0, least}, {0, least, least}, {least + 1, -1, least}, {-1, least + 1, least}, {least, 1, least + 1},
		{most, least, 0}, {least, most, 0}, {most / 2, most / 2, most}, {least / 2, least / 2, least},
	} {
		must(t, "Add", told(cents.Add(c.a, c.b)), answer{c.want, api.OK}, c.a, c.b)
	}
}

func TestAddThatIsBeyondIsRefused(t *testing.T) {
	for _, c := range [][2]int64{
		{most, 1}, {1, most}, {most, most}, {most/2 + 1, most / 2},
		{least, -1}, {-1, least}, {least, least}, {least/2 - 1, least / 2},
	} {
		must(t, "Add", told(cents.Add(c[0], c[1])), refused(api.ErrMoney), c)
	}
}

func TestAddOfAWrongSumIsRefused(t *testing.T) {
	for _, a := range wrongSums() {
		// With the second and the third what comes would be right again.
		for _, b := range []int64{0, -a, 5 - a, 1, -1, most, least, a} {
			must(t, "Add", told(cents.Add(a, b)), refused(api.ErrMoney), a, b)
			must(t, "Add", told(cents.Add(b, a)), refused(api.ErrMoney), b, a)
		}
	}
	must(t, "Add", told(cents.Add(most+1, -1)), refused(api.ErrMoney))
	must(t, "Add", told(cents.Add(1, least-1)), refused(api.ErrMoney))
}

func TestSubTellsTheFirstWithoutTheSecond(t *testing.T) {
	for _, c := range []struct{ a, b, want int64 }{
		{0, 0, 0}, {3, 2, 1}, {5, 7, -2}, {-5, -7, 2}, {-1, 2, -3}, {0, 9, -9}, {1 << 33, 1 << 32, 1 << 32},
		{most, 0, most}, {most - 1, -1, most}, {most, most, 0}, {0, most, least}, {-1, most - 1, least},
		{least, 0, least}, {least + 1, 1, least}, {least, least, 0}, {0, least, most}, {-1, least, most - 1},
		{most / 2, least / 2, most}, {least / 2, most / 2, least},
	} {
		must(t, "Sub", told(cents.Sub(c.a, c.b)), answer{c.want, api.OK}, c.a, c.b)
	}
}

func TestSubThatIsBeyondIsRefused(t *testing.T) {
	for _, c := range [][2]int64{
		{least, 1}, {most, -1}, {1, least}, {-1, most}, {most, least}, {least, most},
		{most/2 + 1, least / 2}, {least/2 - 1, most / 2},
	} {
		must(t, "Sub", told(cents.Sub(c[0], c[1])), refused(api.ErrMoney), c)
	}
}

func TestSubOfAWrongSumIsRefused(t *testing.T) {
	for _, a := range wrongSums() {
		// With the second and the third what comes would be right again.
		for _, b := range []int64{0, a, a - 5, 1, -1, most, least, -a} {
			must(t, "Sub", told(cents.Sub(a, b)), refused(api.ErrMoney), a, b)
			must(t, "Sub", told(cents.Sub(b, a)), refused(api.ErrMoney), b, a)
		}
	}
	must(t, "Sub", told(cents.Sub(most+1, 1)), refused(api.ErrMoney))
	must(t, "Sub", told(cents.Sub(-1, least-1)), refused(api.ErrMoney))
	must(t, "Sub", told(cents.Sub(0, smallest)), refused(api.ErrMoney))
}

func TestAddAndSubOfAllEdges(t *testing.T) {
	for _, a := range edges() {
		for _, b := range edges() {
			must(t, "Add", told(cents.Add(a, b)), dueAdd(a, b), a, b)
			must(t, "Sub", told(cents.Sub(a, b)), dueSub(a, b), a, b)
		}
	}
}
