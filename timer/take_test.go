package timer_test

import (
	"slices"
	"testing"

	"recoup/timer"
)

// The day before, the day itself, the day after.
func TestDueAroundADay(t *testing.T) {
	for _, day := range []int{3, 0, 1, -1, -7, 100000, 1 << 32, -1 << 32, greatest - 1, smallest + 1} {
		for _, c := range []struct {
			now  int
			want []int
		}{{smallest, nil}, {day - 1, nil}, {day, []int{4, 5}}, {day + 1, []int{4, 5}}, {greatest, []int{4, 5}}} {
			var x timer.Timers
			x.Set(5, day)
			x.Set(4, day)
			got := x.Due(c.now)
			if !slices.Equal(got, c.want) || x.Len() != 2-len(c.want) {
				t.Error(day, c.now, got, x.Len())
			}
		}
	}
}

func TestDueOfTheEdges(t *testing.T) {
	for _, c := range []struct {
		now  int
		want []int
	}{{smallest, []int{8}}, {smallest + 1, []int{8, greatest}}, {-1, []int{8, greatest}}, {0, []int{8, greatest, 0}}, {greatest - 1, []int{8, greatest, 0}}, {greatest, []int{8, greatest, 0, smallest}}} {
		var x timer.Timers
		x.Set(0, 0)
		x.Set(smallest, greatest)
		x.Set(8, smallest)
		x.Set(greatest, smallest+1)
		if got := x.Due(c.now); !slices.Equal(got, c.want) {
			t.Error(c.now, got)
		}
	}
}

// None, some, all; what isn't due stays.
func TestDueTakesNoneSomeAll(t *testing.T) {
	l := []timer.Timer{{Day: 4, Number: 1}, {Day: 2, Number: 9}, {Day: 4, Number: 0}, {Day: -3, Number: 5}, {Day: 2, Number: 3}, {Day: 7, Number: -6}}
	for _, c := range []struct {
		now  int
		want []int
		next int
	}{
		{-4, nil, -3}, {-3, []int{5}, 2}, {1, []int{5}, 2}, {2, []int{5, 3, 9}, 4}, {3, []int{5, 3, 9}, 4},
		{4, []int{5, 3, 9, 0, 1}, 7}, {6, []int{5, 3, 9, 0, 1}, 7}, {7, []int{5, 3, 9, 0, 1, -6}, 0}, {8, []int{5, 3, 9, 0, 1, -6}, 0},
	} {
		p := of(t, l...)
		if got := p.t.Clone().Due(c.now); !slices.Equal(got, c.want) {
			t.Error(c.now, got)
		}
		p.take(t, c.now)
		p.check(t)
		if day, ok := p.t.Next(); day != c.next || ok != (len(c.want) < len(l)) {
			t.Error(c.now, day, ok)
		}
		for _, one := range l {
			_, ok := p.t.Day(one.Number)
			if ok == slices.Contains(c.want, one.Number) {
				t.Error(c.now, one, ok)
			}
		}
		if got := p.t.Due(c.now); len(got) != 0 {
			t.Error(c.now, "twice", got)
		}
		p.check(t)
		p.checkDays(t)
	}
}

func TestDueOnlyOnce(t *testing.T) {
	p := of(t, pairs([]int{4, 2, 8, 6}, []int{5})...)
	if l := p.take(t, 5); !slices.Equal(l, []int{2, 4, 6, 8}) {
		t.Error(l)
	}
	for _, now := range []int{5, 4, 6, greatest, smallest} {
		if l := p.t.Due(now); len(l) != 0 {
			t.Error(now, l)
		}
		p.check(t)
	}
	p.set(4, 5)
	if l := p.take(t, 5); !slices.Equal(l, []int{4}) {
		t.Error(l)
	}
	p.check(t)
}

// An earlier day may be asked for later; what was set for it meanwhile is due.
func TestDueOfAnEarlierDay(t *testing.T) {
	p := of(t, timer.Timer{Day: 5, Number: 1}, timer.Timer{Day: 9, Number: 2})
	p.take(t, 7)
	p.set(3, 4)
	p.set(4, 6)
	for _, c := range []struct {
		now  int
		want []int
	}{{3, nil}, {4, []int{3}}, {5, nil}, {9, []int{4, 2}}} {
		if l := p.take(t, c.now); !slices.Equal(l, c.want) {
			t.Error(c.now, l)
		}
		p.check(t)
	}
}

// By days ahead of numbers, by numbers on a day.
func TestDueByDaysThenNumbers(t *testing.T) {
	for _, c := range []struct {
		set  []timer.Timer
		want []int
	}{
		{[]timer.Timer{{Day: 1, Number: 9}, {Day: 2, Number: 1}}, []int{9, 1}},
		{[]timer.Timer{{Day: 2, Number: 1}, {Day: 1, Number: 9}}, []int{9, 1}},
		{[]timer.Timer{{Day: 2, Number: 9}, {Day: 2, Number: 1}}, []int{1, 9}},
		{[]timer.Timer{{Day: 0, Number: 0}, {Day: 0, Number: -1}, {Day: -1, Number: 5}}, []int{5, -1, 0}},
		{[]timer.Timer{{Day: -2, Number: -2}, {Day: -10, Number: -1}, {Day: -2, Number: -10}}, []int{-1, -10, -2}},
		{[]timer.Timer{{Day: 10, Number: 1}, {Day: 9, Number: 2}, {Day: 100, Number: 3}}, []int{2, 1, 3}},
		{[]timer.Timer{{Day: 3, Number: 10}, {Day: 3, Number: 9}, {Day: 3, Number: 100}}, []int{9, 10, 100}},
		{[]timer.Timer{{Day: greatest, Number: 1}, {Day: smallest, Number: 2}, {Day: -1, Number: 3}, {Day: 1, Number: 4}}, []int{2, 3, 4, 1}},
		{[]timer.Timer{{Day: 7, Number: greatest}, {Day: 7, Number: smallest}, {Day: 7, Number: -1}, {Day: 7, Number: 1}}, []int{smallest, -1, 1, greatest}},
	} {
		p := of(t, c.set...)
		if l := p.t.Clone().Due(greatest); !slices.Equal(l, c.want) {
			t.Error(c.set, l)
		}
		var told []int
		for _, one := range p.t.All() {
			told = append(told, one.Number)
		}
		if !slices.Equal(told, c.want) {
			t.Error(c.set, told)
		}
		p.checkDays(t)
	}
}

// Every way of so many calls, of few numbers and days.
func mustGoOn(t *testing.T, p pair, left int) {
	p.check(t)
	if left == 0 {
		return
	}
	for number := -1; number <= 1; number++ {
		for day := range 2 {
			c := p.clone()
			c.set(number, day)
			mustGoOn(t, c, left-1)
		}
		c := p.clone()
		c.stop(t, number)
		mustGoOn(t, c, left-1)
		c = p.clone()
		c.take(t, number)
		mustGoOn(t, c, left-1)
	}
}

func TestEveryWayOfFourCalls(t *testing.T) {
	mustGoOn(t, begin(), 4)
}
