package rule_test

import (
	"testing"

	"recoup/api"
)

func TestTheLimitsAreTheDocuments(t *testing.T) {
	if api.MaxCents != most || api.Points != 10000 {
		t.Error(api.MaxCents, api.Points)
	}
	if api.ErrArg != 1 || api.ErrMoney != 9 || api.ErrRule != 10 || api.ErrWindow != 11 || api.ErrFinal != 12 {
		t.Error(api.ErrArg, api.ErrMoney, api.ErrRule, api.ErrWindow, api.ErrFinal)
	}
}

func TestAUnitMayComeBackWithinItsWindow(t *testing.T) {
	for _, window := range []int{0, 1, 2, 30, 255, 256, 257, 999, 1000} {
		p := with(sample(), 0, window)
		for _, wants := range []bool{false, true} {
			for _, days := range []int{0, 1, window / 2, window - 1, window} {
				if 0 <= days && days <= window {
					mustMay(t, question{p: p, days: days, wants: wants}, api.OK)
				}
			}
			for _, days := range []int{-1, -2, -window - 1, window + 1, window + 2, 1001, 1<<32 + window, -1 << 32, 1 << 62, greatest, smallest, smallest + 1} {
				mustMay(t, question{p: p, days: days, wants: wants}, api.ErrWindow)
			}
		}
	}
}

func TestAWindowOfNoughtIsTheDayItself(t *testing.T) {
	p := with(sample(), 0, 0)
	for days, want := range map[int]api.Errno{-1: api.ErrWindow, 0: api.OK, 1: api.ErrWindow} {
		mustMay(t, question{p: p, days: days}, want)
		mustMay(t, question{days: days, wants: true}, want)
	}
}

// Whatever is wanted, and whenever it is: final is asked ahead of the window.
func TestNothingFinalComesBack(t *testing.T) {
	for _, k := range []int{1, 3, 5, 7} {
		for _, window := range []int{0, 1, 30, 1000} {
			for _, days := range someDays(window) {
				for _, wants := range []bool{false, true} {
					mustMay(t, question{p: ofKind(with(sample(), 0, window), k), days: days, wants: wants}, api.ErrFinal)
				}
			}
		}
	}
}

func TestAnExchangeComesBackForSomethingElse(t *testing.T) {
	for _, k := range []int{2, 6} {
		for _, window := range []int{0, 1, 30, 1000} {
			p := ofKind(with(sample(), 0, window), k)
			for _, days := range []int{0, window / 2, window} {
				mustMay(t, question{p: p, days: days, wants: true}, api.OK)
				mustMay(t, question{p: p, days: days}, api.ErrFinal)
			}
			for _, days := range []int{-1, smallest, window + 1, greatest} {
				mustMay(t, question{p: p, days: days, wants: true}, api.ErrWindow)
				// Both apply: that nothing is wanted is asked first.
				mustMay(t, question{p: p, days: days}, api.ErrFinal)
			}
		}
	}
}

// Credit is a way to pay: it matters not to what may come back.
func TestCreditMayComeBack(t *testing.T) {
	for _, wants := range []bool{false, true} {
		p := ofKind(sample(), 4)
		mustMay(t, question{p: p, days: 30, wants: wants}, api.OK)
		mustMay(t, question{p: p, days: 31, wants: wants}, api.ErrWindow)
		mustMay(t, question{p: p, days: -1, wants: wants}, api.ErrWindow)
	}
}

func TestMayOfAllEdges(t *testing.T) {
	for _, p := range rightPolicies() {
		for _, days := range someDays(p.Window) {
			for _, wants := range []bool{false, true} {
				q := question{p: p, days: days, wants: wants}
				mustMay(t, q, dueMay(q))
			}
		}
	}
}

func TestMayOfEachDayOfEachWindow(t *testing.T) {
	for window := range 1001 {
		for days := window - 3; days < window+3; days++ {
			q := question{p: with(sample(), 0, window), days: days}
			mustMay(t, q, dueMay(q))
		}
	}
}
