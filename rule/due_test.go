package rule_test

import (
	"math"
	"math/big"
	"testing"

	"recoup/api"
	"recoup/rule"
)

const (
	most     = 1 << 50
	least    = -most
	greatest = math.MaxInt64
	smallest = math.MinInt64
)

// question is what is asked of all four calls.
type question struct {
	p             api.Policy
	days          int
	wants         bool
	sum           int64
	reason, grade int
}

// answer is what a call tells, or is due to tell.
type answer struct {
	v int64
	e api.Errno
}

// told makes one of what a call tells.
func told[V int | int64](v V, e api.Errno) answer { return answer{int64(v), e} }

// refused is an answer of an error alone.
func refused(e api.Errno) answer { return answer{0, e} }

// must checks one answer.
func must(t *testing.T, call string, q question, got, want answer) {
	t.Helper()
	if got != want {
		t.Errorf("%s of %+v: %d, %d; want %d, %d", call, q, got.v, got.e, want.v, want.e)
	}
}

func mustMay(t *testing.T, q question, want api.Errno) {
	t.Helper()
	must(t, "May", q, refused(rule.May(q.p, q.days, q.wants)), refused(want))
}

func mustWorth(t *testing.T, q question, want answer) {
	t.Helper()
	must(t, "Worth", q, told(rule.Worth(q.p, q.sum, q.reason, q.grade)), want)
}

func mustTo(t *testing.T, q question, want answer) {
	t.Helper()
	must(t, "To", q, told(rule.To(q.p, q.grade)), want)
}

func mustFee(t *testing.T, q question, want answer) {
	t.Helper()
	must(t, "Fee", q, told(rule.Fee(q.p, q.sum, q.reason)), want)
}

// mustBeDue checks all four calls with what is due.
func mustBeDue(t *testing.T, q question) {
	t.Helper()
	mustMay(t, q, dueMay(q))
	mustWorth(t, q, dueWorth(q))
	mustTo(t, q, dueTo(q))
	mustFee(t, q, dueFee(q))
}

// The dues are told by another hand: with numbers of any length, and each
// reason and grade by its own name.

func dueMay(q question) api.Errno {
	if !dueRight(q.p) {
		return 10
	}
	if q.p.Final {
		return 12
	}
	if q.p.Exchange {
		if !q.wants {
			return 12
		}
	}
	for day := 0; day <= q.p.Window; day++ {
		if day == q.days {
			return 0
		}
	}
	return 11
}

func dueWorth(q question) answer {
	if !dueRight(q.p) {
		return refused(10)
	}
	fee, grade := feeOf(q.p, q.reason), gradeOf(q.p, q.grade)
	if fee == nil || grade == nil {
		return refused(1)
	}
	if isNoSum(q.sum) {
		return refused(9)
	}
	value := points(q.sum, grade.Share)
	return answer{value - points(value, *fee), 0}
}

func dueTo(q question) answer {
	if !dueRight(q.p) {
		return refused(10)
	}
	if grade := gradeOf(q.p, q.grade); grade != nil {
		return answer{int64(grade.To), 0}
	}
	return refused(1)
}

func dueFee(q question) answer {
	if !dueRight(q.p) {
		return refused(10)
	}
	fee := feeOf(q.p, q.reason)
	if fee == nil {
		return refused(1)
	}
	if isNoSum(q.sum) {
		return refused(9)
	}
	return answer{points(q.sum, *fee), 0}
}

func dueRight(p api.Policy) bool {
	for n, v := range numbers(&p) {
		if *v < 0 || n == 0 && *v > 1000 || n > 0 && *v > 10000 {
			return false
		}
	}
	for _, g := range p.Grades {
		if g.To == 1 || g.To == 2 || g.To > 5 || g.To == 0 && g.Share > 0 {
			return false
		}
	}
	return true
}

// feeOf is nil of no reason.
func feeOf(p api.Policy, reason int) *int {
	switch reason {
	case 0:
		return &p.Fee[0]
	case 1:
		return &p.Fee[1]
	case 2:
		return &p.Fee[2]
	case 3:
		return &p.Fee[3]
	}
	return nil
}

// gradeOf is nil of no grade.
func gradeOf(p api.Policy, grade int) *api.Grade {
	switch grade {
	case 0:
		return &p.Grades[0]
	case 1:
		return &p.Grades[1]
	case 2:
		return &p.Grades[2]
	case 3:
		return &p.Grades[3]
	}
	return nil
}

func isNoSum(v int64) bool { return v < 0 || v > 1<<50 }

// points are so many ten-thousandths of a sum that isn't below 0.
func points(v int64, n int) int64 {
	all := new(big.Int).Mul(big.NewInt(v), big.NewInt(int64(n)))
	return all.Quo(all, big.NewInt(10000)).Int64()
}

// numbers are all numbers of a policy: at 0 the Window, from 1 the Fees, from 5
// the Shares, from 9 where they go.
func numbers(p *api.Policy) []*int {
	l := []*int{&p.Window}
	for n := range p.Fee {
		l = append(l, &p.Fee[n])
	}
	for n := range p.Grades {
		l = append(l, &p.Grades[n].Share)
	}
	for n := range p.Grades {
		l = append(l, &p.Grades[n].To)
	}
	return l
}
