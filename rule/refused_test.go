package rule_test

import (
	"slices"
	"testing"

	"recoup/api"
)

// mustAllBeRefused checks that all four calls answer an error alone.
func mustAllBeRefused(t *testing.T, q question, e api.Errno) {
	t.Helper()
	mustMay(t, q, e)
	mustWorth(t, q, refused(e))
	mustTo(t, q, refused(e))
	mustFee(t, q, refused(e))
}

// It is asked first, whatever else is wrong, also of what the call doesn't need.
func TestAPolicyThatIsNotRightIsRefused(t *testing.T) {
	for _, p := range wrongPolicies() {
		for _, n := range []int{0, 1, 2, 3, -1, 4, greatest, smallest} {
			for _, sum := range []int64{0, 1000, most, -1, most + 1, smallest, greatest} {
				mustAllBeRefused(t, question{p: p, sum: sum, reason: n, grade: n}, api.ErrRule)
				mustAllBeRefused(t, question{p: p, days: n, wants: true, sum: sum, grade: n}, api.ErrRule)
			}
		}
	}
}

func TestAPolicyThatIsNotRightIsRefusedAheadOfFinal(t *testing.T) {
	for _, p := range wrongPolicies() {
		for k := range 8 {
			for _, days := range []int{smallest, -1, 0, 1, 30, 1000, 1001, greatest} {
				mustMay(t, question{p: ofKind(p, k), days: days}, api.ErrRule)
				mustMay(t, question{p: ofKind(p, k), days: days, wants: true}, api.ErrRule)
			}
		}
	}
}

// The window that isn't right has each of these days.
func TestAWindowThatIsNotRightHasNoDays(t *testing.T) {
	for _, window := range []int{1001, 1002, 100000, 1 << 32, greatest, -1, -2, smallest} {
		p := with(sample(), 0, window)
		for _, days := range []int{0, 1, 1000, 1001, window - 1, window, -1} {
			mustMay(t, question{p: p, days: days, wants: true}, api.ErrRule)
		}
	}
}

func TestAReasonThatIsNoneIsRefused(t *testing.T) {
	for _, p := range rightPolicies() {
		for _, reason := range wrongOnes() {
			for _, sum := range append(wrongSums(), 0, 1000, most) {
				q := question{p: p, sum: sum, reason: reason}
				mustFee(t, q, refused(api.ErrArg))
				for _, q.grade = range []int{0, 3, -1, 4, reason} {
					mustWorth(t, q, refused(api.ErrArg))
				}
			}
		}
	}
}

func TestAGradeThatIsNoneIsRefused(t *testing.T) {
	for _, p := range rightPolicies() {
		for _, grade := range wrongOnes() {
			mustTo(t, question{p: p, grade: grade}, refused(api.ErrArg))
			for _, sum := range append(wrongSums(), 0, 1000, most) {
				for _, reason := range rightOnes() {
					mustWorth(t, question{p: p, sum: sum, reason: reason, grade: grade}, refused(api.ErrArg))
				}
			}
		}
	}
}

// A loss is no grade of this layer: whoever knows of it takes the share.
func TestWhatWasLostHasNoGrade(t *testing.T) {
	mustWorth(t, question{p: sample(), sum: 1000, grade: 4}, refused(api.ErrArg))
	mustTo(t, question{p: sample(), grade: 4}, refused(api.ErrArg))
}

// Also of a grade that has no share, and of a reason that has no fee.
func TestASumThatIsNoneIsRefused(t *testing.T) {
	for _, sum := range wrongSums() {
		for _, p := range rightPolicies() {
			for _, n := range rightOnes() {
				mustFee(t, question{p: p, sum: sum, reason: n}, refused(api.ErrMoney))
				for _, m := range rightOnes() {
					mustWorth(t, question{p: p, sum: sum, reason: n, grade: m}, refused(api.ErrMoney))
				}
			}
		}
	}
}

// Each call leaves out what it isn't handed.
func TestEachCallAsksForItsOwnAlone(t *testing.T) {
	for _, n := range wrongOnes() {
		mustTo(t, question{p: sample(), sum: -1, reason: n, grade: 1}, answer{4, api.OK})
		mustFee(t, question{p: sample(), sum: 999, reason: 1, grade: n}, answer{99, api.OK})
		mustMay(t, question{p: sample(), sum: -1, reason: n, grade: n}, api.OK)
	}
}

func TestAllEdges(t *testing.T) {
	ones := []int{smallest, -1, 0, 1, 2, 3, 4, greatest}
	sums := slices.Concat([]int64{0, 1, 999, 10001, most - 1, most}, wrongSums())
	for k, p := range append(rightPolicies(), wrongPolicies()...) {
		for _, reason := range ones {
			for _, grade := range ones {
				for _, sum := range sums {
					mustBeDue(t, question{p: p, days: grade, wants: k%2 == 0, sum: sum, reason: reason, grade: grade})
				}
			}
		}
	}
}
