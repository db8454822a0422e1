package rule_test

import (
	"sync"
	"testing"

	"recoup/rule"
)

// someQuestions are answered, or refused, in each way.
func someQuestions() []question {
	var l []question
	for n, p := range append(rightPolicies(), wrongPolicies()[:9]...) {
		l = append(l,
			question{p: p, days: n % 40, wants: n%3 == 0, sum: 1001, reason: n % 4, grade: n % 3},
			question{p: p, days: 1000, wants: true, sum: most, reason: (n + 1) % 4, grade: n % 4},
			question{p: p, days: -1, sum: -1, reason: n % 5, grade: n % 5},
			question{p: p, days: smallest, wants: true, sum: greatest, reason: 4, grade: greatest},
		)
	}
	return l
}

func TestAPolicyIsLeftAsItIs(t *testing.T) {
	for _, q := range someQuestions() {
		p := q.p
		rule.May(p, q.days, q.wants)
		rule.Worth(p, q.sum, q.reason, q.grade)
		rule.To(p, q.grade)
		rule.Fee(p, q.sum, q.reason)
		if p != q.p {
			t.Error(q.p, "is now", p)
		}
	}
}

// A policy that is changed is asked anew.
func TestAPolicyIsNotKept(t *testing.T) {
	p := sample()
	q := question{p: p, days: 5, sum: 1000, reason: 1, grade: 1}
	mustBeDue(t, q)
	q.p.Window, q.p.Fee[1], q.p.Grades[1].Share, q.p.Grades[1].To = 4, 2000, 7000, 5
	mustBeDue(t, q)
	q.p.Fee[0] = 10001
	mustBeDue(t, q)
	q.p = p
	mustBeDue(t, q)
}

// Nothing is kept from call to call: what was refused or told before doesn't
// matter, nor who else asks.
func TestAnswersHangOnTheArgumentsAlone(t *testing.T) {
	var all sync.WaitGroup
	shared := someQuestions()
	for range 4 {
		all.Go(func() {
			for range 50 {
				for _, q := range shared {
					mustBeDue(t, q)
				}
			}
		})
	}
	all.Wait()
}
