package ledger_test

import (
	"math/big"
	"math/rand"
	"testing"

	"recoup/ledger"
)

// someSum is as often short as long; now and then it is an end.
func someSum(r *rand.Rand) int64 {
	switch r.Intn(20) {
	case 0:
		return 0
	case 1:
		return most
	}
	return r.Int63n(most+1) >> r.Intn(51)
}

// someTwo are two different accounts.
func someTwo(r *rand.Rand) (from, to int) {
	from = r.Intn(5)
	return from, (from + 1 + r.Intn(4)) % 5
}

// someHave is right, nine times of ten.
func someHave(r *rand.Rand) int64 {
	if l := wrongHaves(); r.Intn(10) == 0 {
		return l[r.Intn(len(l))]
	}
	return someSum(r) - someSum(r)
}

// One ledger, posting by posting, from nothing on: it comes to nought at each
// step, and goes to the limits and off again.
func TestPostingsComeToNought(t *testing.T) {
	r := rand.New(rand.NewSource(1))
	taken, l := 0, of()
	const steps = 50000
	for range steps {
		from, to := someTwo(r)
		p := posting{l, from, to, someSum(r)}
		mustBeDue(t, p)
		mustTell(t, l)
		next, e := ledger.Post(p.l, p.from, p.to, p.sum)
		if e != 0 {
			continue
		}
		taken++
		if l = next; ledger.Total(l) != 0 {
			t.Fatal(p, l, ledger.Total(l))
		}
	}
	if taken < steps/4 || taken > steps-steps/20 {
		t.Error(taken, "of", steps, "are taken")
	}
}

// Any ledger, be it right or not.
func TestPostIsDue(t *testing.T) {
	r := rand.New(rand.NewSource(2))
	for range 50000 {
		from, to := someTwo(r)
		l := of(someHave(r), someHave(r), someHave(r), someHave(r), someHave(r))
		mustBeDue(t, posting{l, from, to, someSum(r)})
		mustTell(t, l)
	}
}

// The sum is at what one of both accounts can have, or near it.
func TestPostNearTheLimitsIsDue(t *testing.T) {
	r := rand.New(rand.NewSource(3))
	for range 50000 {
		from, to := someTwo(r)
		l := of(someHave(r), someHave(r), someHave(r), someHave(r), someHave(r))
		room := most + l.Have[from]
		if r.Intn(2) == 0 {
			room = most - l.Have[to]
		}
		mustBeDue(t, posting{l, from, to, room + r.Int63n(5) - 2})
	}
}

// One of the numbers is changed to another, most often a wrong one.
func TestWrongInputsAreDue(t *testing.T) {
	r := rand.New(rand.NewSource(4))
	wrong := append(allSums(), wrongHaves()...)
	for range 50000 {
		p := posting{sum: someSum(r)}
		p.from, p.to = someTwo(r)
		p.l = of(someHave(r), someHave(r), someHave(r), someHave(r), someHave(r))
		switch r.Intn(4) {
		case 0:
			p.from = noAccounts()[r.Intn(len(noAccounts()))]
		case 1:
			p.to = noAccounts()[r.Intn(len(noAccounts()))]
		case 2:
			p.to = p.from
		}
		if r.Intn(2) == 0 {
			p.sum = wrong[r.Intn(len(wrong))]
		}
		mustBeDue(t, p)
	}
}

// What follows: the total stays, also of ledgers that don't come to nought, or
// whose total wraps round.
func TestTheTotalStays(t *testing.T) {
	r := rand.New(rand.NewSource(5))
	wrapped := 0
	for range 50000 {
		from, to := someTwo(r)
		l := of(r.Int63()-r.Int63(), r.Int63()-r.Int63(), r.Int63()-r.Int63(), r.Int63()-r.Int63(), r.Int63()-r.Int63())
		l = with(with(l, from, someSum(r)), to, -someSum(r))
		sum := someSum(r)
		next, e := ledger.Post(l, from, to, sum)
		if e != 0 || ledger.Total(next) != ledger.Total(l) {
			t.Fatal(l, from, to, sum, next, e)
		}
		if wraps(l) {
			wrapped++
		}
	}
	if wrapped < 1000 {
		t.Error("only", wrapped, "totals wrap round")
	}
}

// wraps tells whether what all have together isn't an int64.
func wraps(l ledger.Ledger) bool {
	all := new(big.Int)
	for _, have := range l.Have {
		all.Add(all, number(have))
	}
	return !all.IsInt64()
}
