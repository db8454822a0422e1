package cents_test

import (
	"testing"

	"recoup/api"
	"recoup/cents"
)

func TestPartTellsTheShareOfASum(t *testing.T) {
	for _, c := range []struct{ a, n, of, want int64 }{
		{10, 1, 2, 5}, {10, 2, 3, 6}, {10, 1, 3, 3}, {100, 99, 100, 99}, {7, 3, 7, 3},
		// A division rounds down.
		{1, 1, 2, 0}, {1, 99, 100, 0}, {3, 1, 2, 1}, {999, 1500, 10000, 149}, {5, 4, 6, 3}, {11, 10, 12, 9}, {most, 1, 3, most / 3},
		// None, all, and a part of a sum of 0.
		{10, 0, 3, 0}, {10, 3, 3, 10}, {0, 0, 1, 0}, {0, 1, 1, 0}, {0, 2, 3, 0}, {1, 1, 1, 1}, {9, 0, 1, 0},
		{most, 0, 1, 0}, {most, 1, 1, most}, {most, most, most, most}, {most, 0, most, 0}, {0, most, most, 0},
		{most, 1, most, 1}, {most - 1, 1, most, 0}, {most, most - 1, most, most - 1}, {1, most, most, 1}, {1, most - 1, most, 0},
		// n and of are no sums: they may be greater.
		{most, most + 1, most + 1, most}, {most, most, most + 1, most - 1}, {most, 1 << 62, greatest, most / 2},
		{most, greatest, greatest, most}, {most, greatest - 1, greatest, most - 1}, {most, 0, greatest, 0}, {most, 1, greatest, 0},
		{1, greatest, greatest, 1}, {1, greatest - 1, greatest, 0}, {0, greatest, greatest, 0}, {12345, 1 << 61, 1 << 62, 6172},
		{most, 1 << 14, greatest, 2}, {most, 1<<14 - 1, greatest, 1}, {1 << 49, 1 << 15, greatest, 2}, {1 << 49, 1<<15 - 1, greatest, 1},
	} {
		must(t, "Part", told(cents.Part(c.a, c.n, c.of)), answer{c.want, api.OK}, c.a, c.n, c.of)
	}
}

func TestPartOfAWrongSumIsRefused(t *testing.T) {
	wrong := append(wrongSums(), -1, -2, -10000, least, least+1)
	for _, a := range wrong {
		// It is asked first of all, whatever the part is of.
		for _, c := range [][2]int64{
			{0, 1}, {1, 1}, {1, 2}, {0, most}, {greatest, greatest},
			{0, 0}, {1, 0}, {0, -1}, {-1, 1}, {2, 1}, {-1, -1}, {smallest, smallest}, {smallest, greatest}, {greatest, smallest},
		} {
			must(t, "Part", told(cents.Part(a, c[0], c[1])), refused(api.ErrMoney), a, c)
		}
	}
}

func TestPartThatIsNoneIsRefused(t *testing.T) {
	for _, a := range []int64{0, 1, 999, most - 1, most} {
		for _, c := range [][2]int64{
			{0, 0}, {1, 0}, {-1, 0}, {greatest, 0}, {smallest, 0},
			{0, -1}, {-1, -1}, {-2, -1}, {-1, -2}, {1, -1}, {-2, -3}, {0, smallest}, {smallest, smallest}, {greatest, smallest}, {smallest, -1},
			{-1, 1}, {-1, 10000}, {smallest, 1}, {smallest, greatest}, {-1, greatest}, {smallest + 1, greatest},
			{2, 1}, {10001, 10000}, {most + 1, most}, {greatest, 1}, {greatest, greatest - 1}, {greatest, most},
		} {
			must(t, "Part", told(cents.Part(a, c[0], c[1])), refused(api.ErrArg), a, c)
		}
	}
}

func TestPartOfAllEdges(t *testing.T) {
	for _, a := range edges() {
		for _, n := range edges() {
			for _, of := range edges() {
				must(t, "Part", told(cents.Part(a, n, of)), duePart(a, n, of), a, n, of)
			}
		}
	}
}

func TestPointsTellsTenThousandths(t *testing.T) {
	for _, c := range []struct {
		a      int64
		points int
		want   int64
	}{
		{999, 1500, 149}, {10000, 1, 1}, {9999, 1, 0}, {10000, 9999, 9999}, {9999, 9999, 9998}, {1, 9999, 0}, {1, 5000, 0}, {3, 5000, 1}, {2, 5000, 1},
		{999, 0, 0}, {999, 10000, 999}, {0, 0, 0}, {0, 10000, 0}, {0, 5000, 0}, {1, 10000, 1}, {1, 0, 0},
		{most, 0, 0}, {most, 10000, most}, {most, 5000, most / 2}, {most, 1, most / 10000}, {most, 9999, 1125787316851939}, {most - 1, 10000, most - 1},
	} {
		must(t, "Points", told(cents.Points(c.a, c.points)), answer{c.want, api.OK}, c.a, c.points)
	}
}

func TestPointsHasThePartsErrors(t *testing.T) {
	for _, points := range []int{-1, 10001, -10000, 10002, 20000, 1 << 32, 1<<32 + 1, 1<<40 + 5000, greatest, smallest, smallest + 1} {
		for _, a := range []int64{0, 1, 999, most} {
			must(t, "Points", told(cents.Points(a, points)), refused(api.ErrArg), a, points)
		}
		for _, a := range append(wrongSums(), -1, -999, least) {
			must(t, "Points", told(cents.Points(a, points)), refused(api.ErrMoney), a, points)
		}
	}
	for _, points := range []int{0, 1, 9999, 10000} {
		for _, a := range append(wrongSums(), -1, -999, least) {
			must(t, "Points", told(cents.Points(a, points)), refused(api.ErrMoney), a, points)
		}
	}
}

func TestPointsOfAllEdges(t *testing.T) {
	for _, a := range edges() {
		for _, points := range edges() {
			must(t, "Points", told(cents.Points(a, int(points))), duePoints(a, int(points)), a, points)
		}
	}
}
