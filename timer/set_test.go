package timer_test

import (
	"slices"
	"testing"

	"recoup/timer"
)

func TestTheChaptersExample(t *testing.T) {
	var x timer.Timers
	x.Set(5, 3)
	if l := x.Due(2); len(l) != 0 {
		t.Error(l)
	}
	if l := x.Due(3); !slices.Equal(l, []int{5}) {
		t.Error(l)
	}
}

// Of a value, a new one and a clone: there is none, whatever is asked.
func TestTheZeroValueHasNone(t *testing.T) {
	var value timer.Timers
	for _, x := range []*timer.Timers{&value, {}, new(timer.Timers), new(timer.Timers).Clone()} {
		p := pair{x, due{}}
		for _, n := range someNumbers() {
			if day, ok := x.Next(); day != 0 || ok {
				t.Error(day, ok)
			}
			if day, ok := x.Day(n); day != 0 || ok {
				t.Error(n, day, ok)
			}
			if x.Stop(n) || len(x.Due(n)) != 0 || x.Len() != 0 || len(x.All()) != 0 {
				t.Error(n)
			}
		}
		p.check(t)
		p.set(5, 3)
		p.check(t)
		p.checkDays(t)
	}
}

func TestOneTimer(t *testing.T) {
	for _, number := range someNumbers() {
		for _, day := range someNumbers() {
			x := new(timer.Timers)
			x.Set(number, day)
			if l := x.All(); !slices.Equal(l, []timer.Timer{{Day: day, Number: number}}) || x.Len() != 1 {
				t.Error(number, day, l, x.Len())
			}
			if got, ok := x.Next(); got != day || !ok {
				t.Error(number, day, got, ok)
			}
			if got, ok := x.Day(number); got != day || !ok {
				t.Error(number, day, got, ok)
			}
			for _, other := range someNumbers() {
				if got, ok := x.Day(other); other != number && (got != 0 || ok) {
					t.Error(number, day, other, got, ok)
				}
			}
		}
	}
}

func TestTwoTimers(t *testing.T) {
	for _, a := range someNumbers() {
		for _, b := range someNumbers() {
			if a == b {
				continue
			}
			p := of(t, timer.Timer{Day: 4, Number: a}, timer.Timer{Day: 4, Number: b})
			if l := p.take(t, 4); len(l) != 2 {
				t.Error(a, b, l)
			}
			p = of(t, timer.Timer{Day: a, Number: b}, timer.Timer{Day: b, Number: a})
			p.checkDays(t)
			p = of(t, timer.Timer{Day: a, Number: 6}, timer.Timer{Day: b, Number: 4})
			p.checkDays(t)
		}
	}
}

// Days and numbers of any kind together, some of them alike.
func TestManyTimers(t *testing.T) {
	p := begin()
	for k, number := range someNumbers() {
		for _, day := range someNumbers() {
			p.set(number, day)
			p.set(number^day, number)
		}
		p.set(number, someNumbers()[len(someNumbers())-1-k])
		p.check(t)
	}
	p.checkDays(t)
}

func TestANumberIsSetAgain(t *testing.T) {
	for _, first := range someNumbers() {
		for _, second := range someNumbers() {
			p := of(t, timer.Timer{Day: first, Number: 6}, timer.Timer{Day: second, Number: 6})
			if l := p.t.All(); !slices.Equal(l, []timer.Timer{{Day: second, Number: 6}}) {
				t.Error(first, second, l)
			}
			p.checkDays(t)
		}
	}
}

// For an earlier, the same and a later day, among others that stay.
func TestANumberAmongOthersIsSetAgain(t *testing.T) {
	for _, n := range []int{1, 2, 3, 4, 7, 8, 9, 31} {
		for number := range n {
			for day := -2; day <= 2*n+2; day++ {
				p := begin()
				for other := range n {
					p.set(other, 2*other)
				}
				p.set(number, day)
				p.check(t)
				p.checkDays(t)
				p.set(number, 2*number)
				p.check(t)
			}
		}
	}
}

func TestSetAgainTakesThePlaceOfTheDayItHad(t *testing.T) {
	var x timer.Timers
	x.Set(5, 3)
	x.Set(5, 8)
	if l := x.Due(7); len(l) != 0 || x.Len() != 1 {
		t.Error(l, x.Len())
	}
	x.Set(5, 2)
	if day, ok := x.Next(); day != 2 || !ok {
		t.Error(day, ok)
	}
	if l := x.Due(1); len(l) != 0 {
		t.Error(l)
	}
	if l := x.Due(2); !slices.Equal(l, []int{5}) {
		t.Error(l)
	}
	if l := x.Due(100); len(l) != 0 || x.Len() != 0 {
		t.Error(l, x.Len())
	}
}

func TestSetAgainBehindStopAndDue(t *testing.T) {
	for _, day := range []int{-4, 0, 2, 3, 4, greatest, smallest} {
		for _, end := range []func(pair){
			func(p pair) { p.stop(t, 5) },
			func(p pair) { p.take(t, 3) },
			func(p pair) { p.stop(t, 5); p.take(t, 3) },
			func(p pair) { p.take(t, 3); p.stop(t, 5) },
		} {
			for _, l := range [][]timer.Timer{{{Day: 3, Number: 5}}, {{Day: 3, Number: 5}, {Day: 3, Number: 4}, {Day: 1, Number: 6}, {Day: 9, Number: 7}}} {
				p := of(t, l...)
				end(p)
				p.check(t)
				if _, ok := p.t.Day(5); ok {
					t.Error(day, "5 is one still")
				}
				p.set(5, day)
				p.check(t)
				p.checkDays(t)
				p.take(t, day)
				p.check(t)
			}
		}
	}
}

// Whatever the order in which they were set.
func TestEveryOrderOfSetting(t *testing.T) {
	for _, l := range [][]timer.Timer{
		pairs([]int{5}, []int{3}),
		{{Day: 1, Number: 9}, {Day: 2, Number: 8}, {Day: 3, Number: 7}, {Day: 4, Number: 6}, {Day: 5, Number: 5}, {Day: 6, Number: 4}},
		{{Day: 2, Number: 1}, {Day: 2, Number: 2}, {Day: 2, Number: 3}, {Day: 2, Number: 4}, {Day: 2, Number: 5}, {Day: 2, Number: 6}},
		{{Day: -1, Number: 0}, {Day: 0, Number: -1}, {Day: 0, Number: 3}, {Day: 0, Number: -3}, {Day: -1, Number: -2}, {Day: 1, Number: -4}},
		{{Day: smallest, Number: greatest}, {Day: greatest, Number: smallest}, {Day: 0, Number: 0}, {Day: greatest, Number: greatest - 1}, {Day: smallest, Number: 1}},
	} {
		first := of(t, l...)
		want := first.take(t, greatest)
		orders(l, func(l []timer.Timer) {
			p := of(t, l...)
			p.checkDays(t)
			if got := p.t.Due(greatest); !slices.Equal(got, want) {
				t.Error(l, got, want)
			}
		})
	}
}

// Once as many as there are wait, each is there, and taken once.
func TestVeryMany(t *testing.T) {
	const n = 50000
	for _, step := range []int{1, n - 1, 17, 31} {
		var x timer.Timers
		for k := range n {
			number := k * step % n
			x.Set(number, number/10)
		}
		for number := 0; number < n; number += 2 {
			x.Set(number, number/10+n)
		}
		if x.Len() != n {
			t.Error(step, x.Len())
		}
		odd, even := x.Due(n-1), x.Due(greatest)
		for k := range n / 2 {
			if odd[k] != 2*k+1 || even[k] != 2*k {
				t.Fatal(step, k, odd[k], even[k])
			}
		}
		if len(odd) != n/2 || len(even) != n/2 || x.Len() != 0 {
			t.Error(step, len(odd), len(even), x.Len())
		}
	}
}
