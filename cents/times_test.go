package cents_test

import (
	"testing"

	"recoup/api"
	"recoup/cents"
)

func TestTimesTellsASumSoManyTimes(t *testing.T) {
	for _, c := range []struct {
		a    int64
		n    int
		want int64
	}{
		{3, 4, 12}, {-7, 3, -21}, {7, -3, -21}, {-7, -3, 21}, {999, 1, 999}, {999, -1, -999},
		{0, 0, 0}, {5, 0, 0}, {-5, 0, 0}, {0, 5, 0}, {0, -5, 0},
		{most, 1, most}, {most, -1, least}, {least, 1, least}, {least, -1, most}, {most, 0, 0}, {least, 0, 0},
		{1, most, most}, {1, least, least}, {-1, most, least}, {-1, least, most},
		{1 << 25, 1 << 25, most}, {-1 << 25, 1 << 25, least}, {1 << 25, -1 << 25, least}, {-1 << 25, -1 << 25, most},
		{most / 2, 2, most}, {least / 2, 2, least}, {2, most / 2, most},
		{0, greatest, 0}, {0, smallest, 0},
	} {
		must(t, "Times", told(cents.Times(c.a, c.n)), answer{c.want, api.OK}, c.a, c.n)
	}
}

func TestTimesThatIsBeyondIsRefused(t *testing.T) {
	for _, c := range []struct {
		a int64
		n int
	}{
		{most, 2}, {most, -2}, {least, 2}, {least, -2}, {1, most + 1}, {1, least - 1}, {-1, most + 1}, {-1, least - 1},
		{most/2 + 1, 2}, {least/2 - 1, 2}, {1<<25 + 1, 1 << 25}, {-1<<25 - 1, 1 << 25},
		{1, greatest}, {1, smallest}, {-1, greatest}, {-1, smallest}, {2, greatest}, {2, smallest},
		{most, greatest}, {most, smallest}, {least, greatest}, {least, smallest}, {most, most}, {least, least},
	} {
		must(t, "Times", told(cents.Times(c.a, c.n)), refused(api.ErrMoney), c.a, c.n)
	}
}

// What comes of these is right, if it is told in 64 or 63 bits alone.
func TestTimesThatWrapsRoundIsRefused(t *testing.T) {
	for _, c := range []struct {
		a int64
		n int
	}{
		{1 << 32, 1 << 32}, {1 << 50, 1 << 14}, {1 << 50, 1 << 62}, {1 << 33, 1 << 31}, {2, smallest}, {-2, smallest}, {4, 1 << 62},
		{2, 1<<62 + 1<<61}, {-1 << 32, 1 << 32}, {1 << 32, -1 << 32}, {3, 0x5555555555555555}, {3, 0x5555555555555556}, {7, 0x2492492492492493},
		{1 << 50, 1<<14 + 1}, {1 << 49, 1<<15 + 1}, {2, greatest}, {-2, greatest}, {6, 1<<62 + 1},
	} {
		must(t, "Times", told(cents.Times(c.a, c.n)), refused(api.ErrMoney), c.a, c.n)
	}
}

func TestTimesOfAWrongSumIsRefused(t *testing.T) {
	for _, a := range wrongSums() {
		// Not even no times it is right.
		for _, n := range []int{0, 1, -1, 2, -2, 1 << 14, most, least, greatest, smallest} {
			must(t, "Times", told(cents.Times(a, n)), refused(api.ErrMoney), a, n)
		}
	}
}

func TestTimesOfAllEdges(t *testing.T) {
	for _, a := range edges() {
		for _, n := range edges() {
			must(t, "Times", told(cents.Times(a, int(n))), dueTimes(a, int(n)), a, n)
		}
	}
}
