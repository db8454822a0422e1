package timer_test

import (
	"testing"

	"recoup/timer"
)

func TestStopTellsWhetherItWas(t *testing.T) {
	var x timer.Timers
	x.Set(5, 3)
	x.Set(6, 4)
	x.Set(7, 3)
	for _, c := range []struct {
		number int
		want   bool
	}{{4, false}, {3, false}, {5, true}, {5, false}, {-5, false}, {6, true}, {6, false}} {
		if got := x.Stop(c.number); got != c.want {
			t.Error(c.number, got)
		}
	}
	x.Due(3)
	if x.Stop(7) || x.Stop(0) || x.Len() != 0 {
		t.Error("7 was due;", x.Len(), "are left")
	}
}

// A number that was never set, was stopped, or was due is none; the others stay.
func TestStopOfNone(t *testing.T) {
	p := of(t, pairs([]int{1, 2, 3, 5, -1}, []int{2})...)
	p.set(7, 9)
	p.set(100, 1)
	p.stop(t, 2)
	p.take(t, 1)
	for range 2 {
		for _, number := range []int{0, 2, 100, 4, -2, -7, 9, greatest, smallest, 1 << 32, 1<<32 + 1, 1<<32 + 7} {
			if p.t.Clone().Stop(number) || p.stop(t, number) {
				t.Error(number)
			}
			p.check(t)
		}
	}
	p.checkDays(t)
}

// The first, the last, and any between, by their days or against them.
func TestStopOfEachOfMany(t *testing.T) {
	for _, n := range []int{1, 2, 3, 4, 5, 8, 9, 16, 33} {
		for _, step := range []int{1, -1, 7, 0} {
			whole := begin()
			for number := range n {
				whole.set(number, number*step%11)
			}
			for number := range n {
				p := whole.clone()
				if !p.stop(t, number) || p.stop(t, number) {
					t.Error(n, step, number)
				}
				p.check(t)
				p.checkDays(t)
				p.stop(t, (number+1)%n)
				p.check(t)
				p.checkDays(t)
			}
		}
	}
}

// Of a number alone: what others on the day have stays, and so does a timer
// whose day is that number.
func TestStopIsOfANumber(t *testing.T) {
	p := of(t, timer.Timer{Day: 3, Number: 5}, timer.Timer{Day: 5, Number: 3}, timer.Timer{Day: 3, Number: 3<<32 | 5}, timer.Timer{Day: 3, Number: -5})
	if !p.stop(t, 5) {
		t.Error("5 was none")
	}
	p.check(t)
	if p.stop(t, 5) || !p.stop(t, 3) || p.t.Len() != 2 {
		t.Error(p.t.All())
	}
	p.checkDays(t)
}

func TestStopOfOneThatWasSetTwice(t *testing.T) {
	for _, second := range []int{-1, 2, 3, 4, 20} {
		p := of(t, timer.Timer{Day: 3, Number: 5}, timer.Timer{Day: 6, Number: 4}, timer.Timer{Day: second, Number: 5})
		if !p.stop(t, 5) || p.stop(t, 5) {
			t.Error(second)
		}
		p.check(t)
		p.checkDays(t)
	}
}

// The last one of all stopped: it is as if nothing had been set.
func TestStopOfAll(t *testing.T) {
	p := begin()
	for _, number := range someNumbers() {
		p.set(number, -number/2)
	}
	for _, number := range someNumbers() {
		if !p.stop(t, number) {
			t.Error(number)
		}
		p.check(t)
	}
	if day, ok := p.t.Next(); day != 0 || ok || p.t.Len() != 0 || len(p.t.All()) != 0 {
		t.Error(day, ok, p.t.All())
	}
	p.set(1, 1)
	p.check(t)
}

func TestDayOfNoneIsZero(t *testing.T) {
	var x timer.Timers
	for _, n := range []int{1, 2, 3} {
		x.Set(n, 7)
	}
	x.Stop(1)
	x.Set(2, 4)
	x.Due(4)
	for _, n := range []int{1, 2, 0, 7, 4, -3, greatest, smallest} {
		if day, ok := x.Day(n); day != 0 || ok {
			t.Error(n, day, ok)
		}
	}
	if day, ok := x.Day(3); day != 7 || !ok {
		t.Error(day, ok)
	}
}
