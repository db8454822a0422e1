package timer_test

import (
	"math/rand"
	"testing"

	"recoup/timer"
)

// some is a number below n, or one of any kind.
func some(r *rand.Rand, n int) int {
	if r.Intn(20) == 0 {
		return someNumbers()[r.Intn(len(someNumbers()))]
	}
	return r.Intn(n) - n/4
}

// step does one thing, and tells whether it took a timer away.
func (p pair) step(t *testing.T, r *rand.Rand, n int) bool {
	switch r.Intn(8) {
	case 0, 1:
		return p.stop(t, some(r, n))
	case 2:
		now := some(r, 2*n) / 3
		if r.Intn(30) == 0 {
			now = greatest
		}
		return len(p.take(t, now)) > 0
	}
	p.set(some(r, n), some(r, 2*n))
	return false
}

// Beside timers told by another hand: what is done and told.
func TestAnyStepsAreDue(t *testing.T) {
	r := rand.New(rand.NewSource(1))
	taken, all := 0, 0
	for range 300 {
		p, n := begin(), 2+r.Intn(80)
		for range r.Intn(200) {
			if p.step(t, r, n) {
				taken++
			}
			all++
			if r.Intn(5) == 0 {
				p.check(t)
			}
		}
		p.check(t)
		p.checkDays(t)
	}
	if 10*taken < all {
		t.Error(taken, "of", all)
	}
}

// Two go on from the same, each its own way.
func TestAnyClonesAreDue(t *testing.T) {
	r := rand.New(rand.NewSource(2))
	for range 200 {
		p, n := begin(), 2+r.Intn(40)
		for range r.Intn(60) {
			p.step(t, r, n)
		}
		c := p.clone()
		for range r.Intn(60) {
			if r.Intn(2) == 0 {
				p.step(t, r, n)
			} else {
				c.step(t, r, n)
			}
		}
		p.check(t)
		c.check(t)
		p.checkDays(t)
		c.checkDays(t)
	}
}

// Set in any order, each number once or more often: only its last day counts.
func TestAnyOrdersAreDue(t *testing.T) {
	r := rand.New(rand.NewSource(3))
	for range 500 {
		var l []timer.Timer
		for number := range r.Intn(40) {
			l = append(l, timer.Timer{Day: r.Intn(12), Number: number})
		}
		p := begin()
		for _, at := range r.Perm(len(l)) {
			if r.Intn(2) == 0 {
				p.set(l[at].Number, r.Intn(12))
			}
			p.set(l[at].Number, l[at].Day)
		}
		p.check(t)
		p.checkDays(t)
	}
}
