package outbox_test

import (
	"slices"
	"sync"
	"testing"

	"recoup/api"
	"recoup/outbox"
)

// room is a list with spare room behind it, full of one thing more.
func room(l []outbox.Message, more outbox.Message) []outbox.Message {
	return append(slices.Clone(l), more, more, more)[:len(l)]
}

// fill overwrites a list and its spare room.
func fill(l []outbox.Message, with outbox.Message) {
	l = l[:cap(l)]
	for k := range l {
		l[k] = with
	}
}

// use does all that can be done with an outbox.
func use(o *outbox.Outbox) {
	for n := range 12 {
		o.Put(n%4+1, n, 5, n)
		o.Heard(2 * n)
		o.Drop(n%3, n%4+1)
		o.Waits(n)
		said, over := o.Again(3 * n)
		fill(said, message(1, 1, 1, 1))
		fill(over, message(2, 2, 2, 2))
		fill(o.All(), message(3, 3, 3, 3))
		o.NextKey()
	}
	o.Clone().Again(greatest)
}

func TestSlicesAreLeftAsTheyAre(t *testing.T) {
	for _, n := range []int{0, 1, 5, 40} {
		for _, next := range []int{n + 1, n, 0, 1000} {
			l := room(mixed(n).all(), message(n+1, 2, 1, 1))
			whole := slices.Clone(l[:cap(l)])
			if o, e := outbox.Load(next, l); e == api.OK {
				use(o)
				o.Again(greatest)
				o.Again(greatest)
			}
			if !slices.Equal(l[:cap(l)], whole) {
				t.Error(n, next, "are now", l[:cap(l)])
			}
		}
	}
}

func TestSlicesMayBeChangedAfterwards(t *testing.T) {
	for _, n := range []int{1, 5, 40} {
		l := room(mixed(n).all(), message(n+1, 2, 1, 1))
		o, e := outbox.Load(n+1, l)
		if e != api.OK {
			t.Fatal(n, e)
		}
		p := pair{o, mixed(n).due}
		fill(l, message(1, 1, 5, 0))
		p.check(t)
		p.checkDays(t)
		fill(l, outbox.Message{})
		p.put(t, 2, 2, 2, 2)
		p.check(t)
		p.checkDays(t)
	}
}

func TestSpareRoomIsNotRead(t *testing.T) {
	for _, n := range []int{0, 1, 5} {
		for _, more := range []outbox.Message{{}, message(n+1, 2, 1, 0), message(1, 9, 1, 0)} {
			p := load(t, n+9, room(mixed(n).all(), more)...)
			p.checkDays(t)
		}
	}
}

func TestAnswersMayBeChangedAfterwards(t *testing.T) {
	for _, n := range []int{0, 1, 2, 3, 8, 9, 33} {
		p := mixed(n)
		first, second := p.o.All(), p.o.All()
		fill(first, message(9, 1, 5, 0))
		p.check(t)
		if !slices.Equal(second, p.all()) {
			t.Error(n, second)
		}
		fill(second, outbox.Message{})
		for now := range 60 {
			said, over := p.again(now)
			a, b := p.o.Again(now)
			fill(a, message(9, 1, 5, 0))
			if !slices.Equal(b, over) {
				t.Error(n, now, b)
			}
			fill(b, message(8, 2, 2, 2))
			p.check(t)
			if len(said) > 0 {
				p.put(t, 1, 2, 3, now)
			}
			p.check(t)
		}
		p.checkDays(t)
	}
}

// The two lists of one answer have nothing in common.
func TestBothListsHaveNothingInCommon(t *testing.T) {
	for _, n := range []int{2, 3, 8, 9, 40} {
		p := begin()
		for k := range n {
			p.put(t, k%2+1, 1, int64(k), 0)
		}
		for _, now := range []int{1, 3, 7, 15} {
			p.say(t, now)
		}
		said, over := p.again(23)
		for range 2 {
			a, b := p.o.Clone().Again(23)
			fill(a, outbox.Message{})
			if !slices.Equal(b, over) {
				t.Error(n, b)
			}
			a, b = p.o.Clone().Again(23)
			fill(b, outbox.Message{})
			if !slices.Equal(a, said) {
				t.Error(n, a)
			}
			a, b = p.o.Clone().Again(23)
			if _ = append(a, message(1, 1, 1, 1)); !slices.Equal(b, over) {
				t.Error(n, b)
			}
		}
	}
}

// What was answered is as it was, whatever is done afterwards.
func TestAnswersStay(t *testing.T) {
	p := mixed(20)
	for now := range 20 {
		p.say(t, now)
	}
	want := p.all()
	all := p.o.All()
	said, over := p.again(25)
	a, b := p.o.Again(25)
	use(p.o)
	p.o.Again(greatest)
	use(p.o)
	if !slices.Equal(all, want) || !slices.Equal(a, said) || !slices.Equal(b, over) || len(said) == 0 || len(over) == 0 {
		t.Error(all, a, b)
	}
}

func TestACloneHasNothingInCommon(t *testing.T) {
	for _, n := range []int{0, 1, 2, 9, 40} {
		p := mixed(n)
		first, second := p.clone(), p.clone()
		use(second.o)
		p.check(t)
		first.check(t)
		use(p.o)
		first.check(t)
		first.checkDays(t)
		third := first.clone()
		for k := range n + 3 {
			first.put(t, k%4+1, k%3, 1, k)
			first.heard(t, k*2)
			first.say(t, k)
			third.check(t)
		}
		first.check(t)
		for rma := range 3 {
			for kind := 1; kind <= 4; kind++ {
				first.drop(t, rma, kind)
			}
		}
		first.check(t)
		third.check(t)
		third.checkDays(t)
	}
}

// A clone goes on as what it was cloned from; so does a clone of a clone.
func TestACloneGoesOnLikeTheOther(t *testing.T) {
	p := begin()
	for k := range 40 {
		other := p.clone()
		other.check(t)
		p.put(t, k%4+1, k%3, int64(k), k)
		other.check(t)
		other.put(t, k%4+1, k%3, int64(k), k)
		other.check(t)
		if k%4 == 3 {
			p.say(t, k)
			other.check(t)
			other.say(t, k)
		}
		p.heard(t, k*7%40)
		other.check(t)
		other.heard(t, k*7%40)
		other.clone().clone().check(t)
		other.checkDays(t)
		p = other
	}
}

// One that had some once has none again, and its clone, too; the key goes on.
func TestACloneOfNone(t *testing.T) {
	p := mixed(9)
	for key := range 10 {
		p.heard(t, key)
	}
	for _, p := range []pair{p, begin()} {
		c := p.clone()
		c.check(t)
		c.put(t, 1, 2, 3, 4)
		p.check(t)
		p.put(t, 2, 1, 1, 1)
		c.check(t)
		p.check(t)
		if c.o == p.o {
			t.Error("a clone is what it was cloned from")
		}
	}
}

// What is told leaves an outbox as it is.
func TestTellingLeavesAnOutboxAsItIs(t *testing.T) {
	for _, n := range []int{0, 1, 12} {
		p := mixed(n)
		for range 3 {
			p.check(t)
			p.o.Clone()
		}
		p.checkDays(t)
		p.check(t)
	}
}

func TestTwoHaveNothingInCommon(t *testing.T) {
	a, b := begin(), begin()
	for n := range 10 {
		a.put(t, n%4+1, n, 1, n)
		b.check(t)
		b.put(t, 1, 2, 3, -n)
		a.check(t)
	}
	a.say(t, 5)
	b.check(t)
	b.heard(t, 7)
	b.drop(t, 2, 1)
	a.check(t)
}

// Nothing is kept from call to call, but in the outbox itself; it doesn't matter
// who else asks.
func TestAnswersHangOnTheOutboxAlone(t *testing.T) {
	var all sync.WaitGroup
	shared := mixed(30)
	for k := range 4 {
		own := shared.clone()
		all.Go(func() {
			for round := range 60 {
				shared.check(t)
				own.put(t, (k+round)%4+1, round%5, 3, round)
				own.heard(t, (k*7+round)%40)
				own.say(t, round)
				own.drop(t, round%5, k+1)
				own.check(t)
			}
		})
	}
	all.Wait()
}
