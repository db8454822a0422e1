package table_test

import (
	"testing"

	"recoup/api"
	"recoup/table"
)

func TestTheLimitsAreTheDocuments(t *testing.T) {
	if api.MaxTable != 16 || api.Points != 10000 {
		t.Error(api.MaxTable, api.Points)
	}
	if api.ErrArg != 1 || api.ErrForm != 3 || api.ErrRule != 10 {
		t.Error(api.ErrArg, api.ErrForm, api.ErrRule)
	}
}

func TestAWindowIsFromNoughtToAThousand(t *testing.T) {
	for _, v := range []int{0, 1, 30, 255, 256, 257, 998, 999, 1000} {
		mustBeRight(t, alone(with(sample(), 0, v)))
	}
	for _, v := range append(wrongNumbers(), 1001, 1002, 1024, 2000, 9999, 10000) {
		mustBeWrong(t, alone(with(sample(), 0, v)))
	}
}

func TestAFeeIsFromNoughtToPoints(t *testing.T) {
	for n := range 4 {
		for _, v := range []int{0, 1, 255, 256, 1000, 1001, 9999, 10000} {
			mustBeRight(t, alone(with(sample(), 1+n, v)))
		}
		for _, v := range append(wrongNumbers(), 10002, 16384, 20000) {
			mustBeWrong(t, alone(with(sample(), 1+n, v)))
		}
	}
}

func TestAShareIsFromNoughtToPoints(t *testing.T) {
	for n := range 4 {
		for to := 3; to <= 5; to++ {
			for _, v := range []int{0, 1, 255, 256, 1000, 1001, 9999, 10000} {
				mustBeRight(t, alone(withGrade(sample(), n, v, to)))
			}
			for _, v := range append(wrongNumbers(), 10002, 16384, 20000) {
				mustBeWrong(t, alone(withGrade(sample(), n, v, to)))
			}
		}
	}
}

func TestWhatGoesBackHasNoShare(t *testing.T) {
	for n := range 4 {
		mustBeRight(t, alone(withGrade(sample(), n, 0, 0)))
		for _, share := range append(wrongNumbers(), 1, 2, 255, 256, 5000, 9999, 10000) {
			mustBeWrong(t, alone(withGrade(sample(), n, share, 0)))
		}
	}
	p := sample()
	p.Grades = [4]api.Grade{}
	mustBeRight(t, alone(p))
}

func TestAPlaceIsSellableRefurbishScrapOrBack(t *testing.T) {
	for n := range 4 {
		for _, share := range []int{0, 1, 5000, 10000} {
			for _, to := range []int{3, 4, 5} {
				mustBeRight(t, alone(withGrade(sample(), n, share, to)))
			}
			for _, to := range append(wrongNumbers(), 1, 2, 6, 7, 8, 9, 10, 255, 256, 258, 259, 260, 261, 10000) {
				mustBeWrong(t, alone(withGrade(sample(), n, share, to)))
			}
		}
	}
}

// All of a policy's kinds go together, with any window, and with any other.
func TestAPolicyIsOfAnyKinds(t *testing.T) {
	for k := range 8 {
		p := sample()
		p.Final, p.Exchange, p.Credit = k&1 > 0, k&2 > 0, k&4 > 0
		mustBeRight(t, alone(p))
		mustBeRight(t, alone(with(p, 0, 0)))
		mustBeRight(t, []api.Policy{sample(), p, {}})
		mustBeWrong(t, alone(with(p, 0, -1)))
		mustBeRight(t, alone(api.Policy{Final: k&1 > 0, Exchange: k&2 > 0, Credit: k&4 > 0}))
	}
}

func TestATableHasAtMostSixteenPolicies(t *testing.T) {
	for n := range 17 {
		mustBeRight(t, times(n))
		mustBeRight(t, make([]api.Policy, n))
	}
	for _, n := range []int{17, 18, 32, 255, 256, 272, 1 << 16, 1<<16 + 1} {
		mustBeWrong(t, times(min(n, 1000)))
		mustBeWrong(t, make([]api.Policy, n))
	}
}

func TestNoPoliciesAreATable(t *testing.T) {
	mustBeRight(t, nil)
	mustBeRight(t, []api.Policy{})
}

// One wrong policy, wherever it stands, is enough.
func TestEachPolicyIsAsked(t *testing.T) {
	for _, many := range []int{1, 2, 3, 15, 16} {
		for at := range many {
			for n := range numbers(&api.Policy{}) {
				l := times(many)
				l[at] = with(l[at], n, -1)
				mustBeWrong(t, l)
				l[at] = with(l[at], n, 10001)
				mustBeWrong(t, l)
			}
			l := times(many)
			l[at] = withGrade(l[at], 2, 1, 0)
			mustBeWrong(t, l)
		}
	}
}

// Too much in one place isn't made good by too little in another.
func TestTwoWrongsAreWrong(t *testing.T) {
	for n := range 13 {
		for m := range 13 {
			if n != m {
				mustBeWrong(t, alone(with(with(sample(), n, -1), m, 10001)))
				mustBeWrong(t, alone(with(with(sample(), n, smallest), m, greatest)))
			}
		}
	}
}

func TestRightAsksOfAllThePoliciesAlone(t *testing.T) {
	for range 3 {
		if !table.Right(times(16)) || table.Right(times(17)) || !table.Right(nil) {
			t.Error("it is now otherwise")
		}
	}
}
