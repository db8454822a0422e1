package rule_test

import (
	"math/rand"
	"testing"

	"recoup/api"
	"recoup/rule"
)

// oneOf is an element of a list.
func oneOf[T any](r *rand.Rand, l []T) T { return l[r.Intn(len(l))] }

// someRight is right.
func someRight(r *rand.Rand) api.Policy {
	points := func() int {
		if r.Intn(3) == 0 {
			return oneOf(r, somePoints())
		}
		return r.Intn(10001)
	}
	p := ofKind(api.Policy{Window: r.Intn(1001) >> r.Intn(11)}, r.Intn(8)&r.Intn(8))
	for n := range 4 {
		p.Fee[n] = points()
		if r.Intn(5) > 0 {
			p.Grades[n] = api.Grade{Share: points(), To: 3 + r.Intn(3)}
		}
	}
	return p
}

// someRightQuestion has nothing wrong but days, perhaps.
func someRightQuestion(r *rand.Rand) question {
	q := question{p: someRight(r), wants: r.Intn(2) == 0, sum: r.Int63n(most+1) >> r.Intn(50), reason: r.Intn(4), grade: r.Intn(4)}
	q.days = q.p.Window + r.Intn(q.p.Window+3) - r.Intn(q.p.Window+3)
	return q
}

// changed is a question of which one thing is another, and mostly wrong.
func changed(r *rand.Rand, q question, wrong []api.Policy) question {
	switch r.Intn(7) {
	case 0:
		q.p = oneOf(r, wrong)
	case 1:
		*oneOf(r, numbers(&q.p)) += r.Intn(5) - 2
	case 2:
		q.days = oneOf(r, someDays(q.p.Window))
	case 3:
		q.reason = oneOf(r, wrongOnes())
	case 4:
		q.grade = oneOf(r, wrongOnes())
	case 5:
		q.sum = oneOf(r, wrongSums())
	case 6:
		q.sum = oneOf(r, rightSums())
	}
	return q
}

func TestSomeQuestionsAreDue(t *testing.T) {
	r := rand.New(rand.NewSource(1))
	for range 50000 {
		mustBeDue(t, someRightQuestion(r))
	}
}

func TestSomeWrongQuestionsAreDue(t *testing.T) {
	r := rand.New(rand.NewSource(2))
	wrong := wrongPolicies()
	for range 50000 {
		q := changed(r, someRightQuestion(r), wrong)
		mustBeDue(t, q)
		mustBeDue(t, changed(r, q, wrong))
	}
}

func TestSomeUnitsAreWorthNoMoreThanTheirShares(t *testing.T) {
	r := rand.New(rand.NewSource(3))
	for range 100000 {
		q := someRightQuestion(r)
		v, e := rule.Worth(q.p, q.sum, q.reason, q.grade)
		if e != api.OK || v < 0 || v > q.sum {
			t.Fatalf("Worth of %+v: %d, %d", q, v, e)
		}
		fee, e := rule.Fee(q.p, q.sum, q.reason)
		if e != api.OK || fee < 0 || fee > q.sum {
			t.Fatalf("Fee of %+v: %d, %d", q, fee, e)
		}
	}
}
