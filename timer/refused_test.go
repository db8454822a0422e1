package timer_test

import (
	"testing"

	"recoup/timer"
)

func TestNilTimers(t *testing.T) {
	var x *timer.Timers
	for range 2 {
		for _, a := range someNumbers() {
			for _, b := range someNumbers() {
				x.Set(a, b)
			}
			day, ok := x.Day(a)
			if x.Stop(a) || len(x.Due(a)) != 0 || day != 0 || ok {
				t.Error(a, day, ok)
			}
		}
		day, ok := x.Next()
		if day != 0 || ok || x.Len() != 0 || x.Clone() != nil || len(x.All()) != 0 {
			t.Error(day, ok, x.Len(), x.Clone(), x.All())
		}
	}
}

// Of all arguments, alone or together with any other one.
func TestAnyArguments(t *testing.T) {
	p := begin()
	for _, a := range someNumbers() {
		for _, b := range someNumbers() {
			p.set(a, b)
			p.stop(t, b)
			p.set(b, a)
		}
		p.check(t)
		c := p.clone()
		c.take(t, a)
		c.check(t)
	}
}
