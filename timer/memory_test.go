package timer_test

import (
	"slices"
	"sync"
	"testing"

	"recoup/timer"
)

// fill overwrites a list and its spare room.
func fill[T any](l []T, with T) {
	l = l[:cap(l)]
	for k := range l {
		l[k] = with
	}
}

// mixed is a pair of n timers, some of them on a day.
func mixed(n int) pair {
	p := begin()
	for k := range n {
		p.set(k*7%n-2, k%5)
	}
	return p
}

// use does all that can be done with timers.
func use(x *timer.Timers) {
	for n := range 12 {
		x.Set(n, -n)
		x.Set(100+n, 3)
		x.Set(n-5, 4)
		x.Stop(n + 2)
		x.Due(n/2 - 6)
		x.Next()
		x.Day(n)
		fill(x.All(), timer.Timer{Day: 1, Number: 1})
	}
	x.Clone().Due(greatest)
}

func TestAnswersMayBeChangedAfterwards(t *testing.T) {
	for _, n := range []int{0, 1, 2, 3, 8, 9, 33} {
		p := mixed(n)
		first, second := p.t.All(), p.t.All()
		fill(first, timer.Timer{Day: -9, Number: 77})
		p.check(t)
		if !slices.Equal(second, p.all()) {
			t.Error(n, second)
		}
		fill(second, timer.Timer{Day: 99, Number: 0})
		for now := range 5 {
			want := p.until(now)
			l := p.t.Due(now)
			for _, number := range want {
				delete(p.due, number)
			}
			fill(l, 3)
			p.check(t)
			p.set(now, 8)
			p.set(now+50, 9)
			p.check(t)
		}
		p.checkDays(t)
	}
}

// What was answered is as it was, whatever is done afterwards.
func TestAnswersStay(t *testing.T) {
	p := mixed(20)
	want := p.all()
	all := p.t.All()
	numbers := p.until(2)
	l := p.t.Due(2)
	use(p.t)
	p.t.Due(greatest)
	use(p.t)
	if !slices.Equal(all, want) || !slices.Equal(l, numbers) {
		t.Error(all, l)
	}
}

func TestACloneHasNothingInCommon(t *testing.T) {
	for _, n := range []int{0, 1, 2, 9, 40} {
		p := mixed(n)
		first, second := p.clone(), p.clone()
		use(second.t)
		p.check(t)
		first.check(t)
		use(p.t)
		first.check(t)
		third := first.clone()
		for k := range 2*n + 3 {
			first.set(k-2, 4-k)
			first.stop(t, k/2)
			third.check(t)
		}
		first.check(t)
		first.take(t, greatest)
		first.check(t)
		third.check(t)
		third.checkDays(t)
	}
}

// A clone goes on as what it was cloned from; so does a clone of a clone.
func TestACloneGoesOnLikeTheOther(t *testing.T) {
	p := begin()
	for k := range 30 {
		other := p.clone()
		other.check(t)
		p.set(k%11, k*13%7)
		other.check(t)
		other.set(k%11, k*13%7)
		other.check(t)
		if k%4 == 3 {
			now := k%5 - 1
			if a, b := p.take(t, now), other.take(t, now); !slices.Equal(a, b) {
				t.Error(k, a, b)
			}
		}
		p.stop(t, k%6)
		other.stop(t, k%6)
		other.check(t)
		other.clone().clone().check(t)
		p = other
	}
}

// One that had some once has none again, and its clone, too.
func TestACloneOfNone(t *testing.T) {
	p := mixed(9)
	p.take(t, greatest)
	c := p.clone()
	c.check(t)
	c.set(1, 2)
	p.check(t)
	p.set(2, 1)
	c.check(t)
	p.check(t)
	if c.t == p.t {
		t.Error("a clone is what it was cloned from")
	}
}

// What is told leaves timers as they are.
func TestTellingLeavesTimersAsTheyAre(t *testing.T) {
	for _, n := range []int{0, 1, 12} {
		p := mixed(n)
		for range 3 {
			p.check(t)
			p.t.Clone()
		}
		p.checkDays(t)
		p.check(t)
	}
}

func TestTwoHaveNothingInCommon(t *testing.T) {
	a, b := begin(), begin()
	for n := range 10 {
		a.set(n, n)
		b.check(t)
		b.set(n, -n)
		a.check(t)
	}
	a.take(t, 5)
	b.check(t)
	b.stop(t, 7)
	a.check(t)
}

// Nothing is kept from call to call, but in the timers themselves; it doesn't
// matter who else asks.
func TestAnswersHangOnTheTimersAlone(t *testing.T) {
	var all sync.WaitGroup
	shared := mixed(30)
	for k := range 4 {
		own := shared.clone()
		all.Go(func() {
			for round := range 100 {
				shared.check(t)
				own.set((k+round)%30, round%9)
				own.stop(t, round%7)
				own.take(t, round%3)
				own.check(t)
			}
		})
	}
	all.Wait()
}
