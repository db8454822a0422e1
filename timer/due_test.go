package timer_test

import (
	"math"
	"slices"
	"sort"
	"testing"

	"recoup/timer"
)

const (
	greatest = math.MaxInt
	smallest = math.MinInt
)

// due are timers told by another hand: of each number that has one, the day.
type due map[int]int

// all are by day, then number.
func (d due) all() []timer.Timer {
	var l []timer.Timer
	for number, day := range d {
		l = append(l, timer.Timer{Day: day, Number: number})
	}
	sort.Slice(l, func(i, j int) bool {
		if l[i].Day == l[j].Day {
			return l[i].Number < l[j].Number
		}
		return l[i].Day < l[j].Day
	})
	return l
}

// until are the numbers of all whose day isn't behind now.
func (d due) until(now int) []int {
	var l []int
	for _, one := range d.all() {
		if one.Day > now {
			break
		}
		l = append(l, one.Number)
	}
	return l
}

// pair are timers, and what is due of them.
type pair struct {
	t *timer.Timers
	due
}

// begin is a pair of no timer.
func begin() pair { return pair{new(timer.Timers), due{}} }

// of is a pair of these, set one behind the other.
func of(t *testing.T, l ...timer.Timer) pair {
	t.Helper()
	p := begin()
	for _, one := range l {
		p.set(one.Number, one.Day)
	}
	p.check(t)
	return p
}

// clone is a pair of the timers' clone.
func (p pair) clone() pair {
	d := due{}
	for number, day := range p.due {
		d[number] = day
	}
	return pair{p.t.Clone(), d}
}

func (p pair) set(number, day int) {
	p.t.Set(number, day)
	p.due[number] = day
}

// stop stops a timer, and checks what is answered.
func (p pair) stop(t *testing.T, number int) bool {
	t.Helper()
	_, want := p.due[number]
	if got := p.t.Stop(number); got != want {
		t.Errorf("Stop(%d): %v; want %v", number, got, want)
	}
	delete(p.due, number)
	return want
}

// take takes what is due, and checks what is answered.
func (p pair) take(t *testing.T, now int) []int {
	t.Helper()
	want := p.until(now)
	if got := p.t.Due(now); !slices.Equal(got, want) {
		t.Errorf("Due(%d): %v; want %v", now, got, want)
	}
	for _, number := range want {
		delete(p.due, number)
	}
	return want
}

// check checks all that is told of timers.
func (p pair) check(t *testing.T) {
	t.Helper()
	want := p.all()
	if got := p.t.All(); !slices.Equal(got, want) {
		t.Errorf("All: %v; want %v", got, want)
	}
	if got := p.t.Len(); got != len(want) {
		t.Errorf("Len: %d; want %d", got, len(want))
	}
	least := 0
	if len(want) > 0 {
		least = want[0].Day
	}
	if got, ok := p.t.Next(); got != least || ok != (len(want) > 0) {
		t.Errorf("Next: %d, %v; want %d of %d", got, ok, least, len(want))
	}
	for _, one := range want {
		p.checkDay(t, one.Number)
	}
	for _, number := range someNumbers() {
		p.checkDay(t, number)
	}
}

func (p pair) checkDay(t *testing.T, number int) {
	t.Helper()
	want, isOne := p.due[number]
	if got, ok := p.t.Day(number); got != want || ok != isOne {
		t.Errorf("Day(%d): %d, %v; want %d, %v", number, got, ok, want, isOne)
	}
}

// checkDays checks what is due on each of the days that there are, and the one
// ahead of each; nothing of it is left.
func (p pair) checkDays(t *testing.T) {
	t.Helper()
	c := p.clone()
	for _, one := range p.all() {
		if one.Day > smallest {
			c.take(t, one.Day-1)
		}
		c.take(t, one.Day)
		c.check(t)
	}
	if c.t.Len() != 0 {
		t.Error(c.t.Len(), "are left")
	}
}
