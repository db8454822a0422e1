package rule_test

import (
	"testing"

	"recoup/api"
	"recoup/rule"
)

func TestAUnitIsWorthItsGradesShareLessTheFee(t *testing.T) {
	for _, c := range []struct {
		share     int64
		fee, part int
		want      int64
	}{
		{1000, 1000, 5000, 450}, {1000, 0, 10000, 1000}, {1000, 10000, 10000, 0}, {1000, 0, 0, 0}, {0, 0, 10000, 0}, {0, 10000, 10000, 0},
		// A fee that is rounded down is less, so that the unit is worth more.
		{999, 1000, 10000, 900}, {1, 9999, 10000, 1}, {1, 10000, 10000, 0}, {9, 1000, 10000, 9}, {10, 1000, 10000, 9}, {11, 1000, 10000, 10}, {10000, 1, 10000, 9999}, {9999, 1, 10000, 9999},
		// A grade's share that is rounded down is worth less.
		{999, 0, 5000, 499}, {1, 0, 9999, 0}, {1, 0, 5000, 0}, {9999, 0, 1, 0}, {10000, 0, 1, 1}, {19999, 0, 1, 1}, {20000, 0, 1, 2},
		// Both are rounded, one behind the other; the fee is one of what the grade left.
		{999, 1500, 5000, 425}, {19, 5000, 5000, 5}, {3, 5000, 5000, 1}, {5, 5000, 5000, 1}, {7, 5000, 5000, 2}, {1001, 3333, 6667, 445},
		{9999, 9999, 9999, 1}, {10001, 9999, 9999, 1}, {10000, 9999, 9999, 1}, {20003, 9999, 9999, 2}, {20005, 9999, 9999, 3}, {100, 9900, 9900, 1},
		// The ends.
		{most, 0, 10000, most}, {most, 10000, 10000, 0}, {most, 0, 0, 0}, {most, 5000, 5000, most / 4}, {most - 1, 0, 10000, most - 1},
		{most, 0, 1, 112589990684}, {most, 1, 10000, 1125787316851940}, {most, 9999, 9999, 112578731686}, {most, 0, 9999, 1125787316851939},
	} {
		p := withOne(c.fee, c.part)
		for _, n := range rightOnes() {
			mustWorth(t, question{p: p, sum: c.share, reason: n, grade: 3 - n}, answer{c.want, api.OK})
			mustWorth(t, question{p: p, sum: c.share, reason: n, grade: n}, answer{c.want, api.OK})
		}
	}
}

func TestWorthIsOfItsOwnReasonAndGrade(t *testing.T) {
	want := [4][4]int64{
		{10000, 5000, 1, 0},
		{9000, 4500, 1, 0},
		{6667, 3334, 1, 0},
		{0, 0, 0, 0},
	}
	for reason, l := range want {
		for grade, v := range l {
			mustWorth(t, question{p: sample(), sum: 10000, reason: reason, grade: grade}, answer{v, api.OK})
		}
	}
}

// When it came, and what is wanted, is asked of May alone.
func TestWorthAsksNotForWindowOrKind(t *testing.T) {
	for k := range 8 {
		for _, window := range []int{0, 1, 1000} {
			p := ofKind(with(sample(), 0, window), k)
			mustWorth(t, question{p: p, sum: 1000, reason: 1, grade: 1}, answer{450, api.OK})
			mustFee(t, question{p: p, sum: 999, reason: 1}, answer{99, api.OK})
			mustTo(t, question{p: p, grade: 2}, answer{5, api.OK})
		}
	}
}

// What goes to a shelf, or away, may be worth anything; what goes back nothing.
func TestWorthAsksNotForThePlace(t *testing.T) {
	for to := 3; to <= 5; to++ {
		p := withOne(2500, 8000)
		for n := range p.Grades {
			p.Grades[n].To = to
			mustWorth(t, question{p: p, sum: 1001, reason: 3 - n, grade: n}, answer{600, api.OK})
		}
	}
	for _, sum := range rightSums() {
		for _, reason := range rightOnes() {
			mustWorth(t, question{p: sample(), sum: sum, reason: reason, grade: 3}, answer{0, api.OK})
		}
	}
}

func TestNothingIsWorthMoreThanItsShareOrLessThanNothing(t *testing.T) {
	for _, fee := range somePoints() {
		for _, part := range somePoints() {
			p := withOne(fee, part)
			for _, sum := range rightSums() {
				q := question{p: p, sum: sum, reason: 2, grade: 1}
				v, e := rule.Worth(p, sum, 2, 1)
				if e != api.OK || v < 0 || v > sum {
					t.Errorf("Worth of %+v: %d, %d", q, v, e)
				}
				mustBeDue(t, q)
			}
		}
	}
}

func TestWorthOfSmallSharesAndAllPoints(t *testing.T) {
	for n := range 10001 {
		for _, sum := range []int64{0, 1, 2, 3, 7, 10, 999, 10000, 10001, most} {
			q := question{p: withOne(n, 10000), sum: sum}
			mustWorth(t, q, dueWorth(q))
			mustFee(t, q, dueFee(q))
			q = question{p: withOne(0, n), sum: sum}
			mustWorth(t, q, dueWorth(q))
		}
	}
}

func TestTheFeeIsThatOfTheReason(t *testing.T) {
	p := with(with(with(with(sample(), 1, 0), 2, 1), 3, 9999), 4, 10000)
	for _, c := range []struct {
		sum  int64
		want [4]int64
	}{
		{0, [4]int64{0, 0, 0, 0}}, {1, [4]int64{0, 0, 0, 1}}, {2, [4]int64{0, 0, 1, 2}}, {9999, [4]int64{0, 0, 9998, 9999}}, {10000, [4]int64{0, 1, 9999, 10000}},
		{10001, [4]int64{0, 1, 9999, 10001}}, {20000, [4]int64{0, 2, 19998, 20000}}, {most, [4]int64{0, 112589990684, 1125787316851939, most}},
	} {
		for reason, want := range c.want {
			mustFee(t, question{p: p, sum: c.sum, reason: reason}, answer{want, api.OK})
		}
	}
	mustFee(t, question{p: sample(), sum: 999, reason: 1}, answer{99, api.OK})
	mustFee(t, question{p: with(sample(), 2, 1500), sum: 999, reason: 1}, answer{149, api.OK})
}

func TestThePlaceIsThatOfTheGrade(t *testing.T) {
	for grade, want := range []int64{3, 4, 5, 0} {
		mustTo(t, question{p: sample(), grade: grade}, answer{want, api.OK})
		mustTo(t, question{grade: grade}, answer{0, api.OK})
	}
	for grade := range 4 {
		for _, to := range []int{3, 4, 5} {
			for _, share := range []int{0, 1, 10000} {
				mustTo(t, question{p: with(with(sample(), 9+grade, to), 5+grade, share), grade: grade}, answer{int64(to), api.OK})
			}
		}
		mustTo(t, question{p: with(with(sample(), 9+grade, 0), 5+grade, 0), grade: grade}, answer{0, api.OK})
	}
}
