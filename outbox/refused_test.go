package outbox_test

import (
	"testing"

	"recoup/outbox"
)

func TestNilOutbox(t *testing.T) {
	var o *outbox.Outbox
	for range 2 {
		for _, a := range someNumbers() {
			for _, b := range someNumbers() {
				if m := o.Put(a, b, int64(a), b); m != (outbox.Message{}) {
					t.Error(a, b, m)
				}
				if n := o.Drop(a, b); n != 0 {
					t.Error(a, b, n)
				}
			}
			m, ok := o.Heard(a)
			said, over := o.Again(a)
			if m != (outbox.Message{}) || ok || len(said) != 0 || len(over) != 0 || o.Waits(a) != 0 {
				t.Error(a, m, ok, said, over, o.Waits(a))
			}
		}
		if o.NextKey() != 0 || o.Clone() != nil || len(o.All()) != 0 {
			t.Error(o.NextKey(), o.Clone(), o.All())
		}
	}
}

// One that nobody made is as a new one.
func TestTheZeroValueIsAsANewOne(t *testing.T) {
	var value outbox.Outbox
	for _, o := range []*outbox.Outbox{&value, {}, new(outbox.Outbox), new(outbox.Outbox).Clone()} {
		p := pair{o, &due{next: 1}}
		for _, n := range someNumbers() {
			p.heard(t, n)
			p.drop(t, n, n)
			p.say(t, n)
		}
		p.check(t)
		p.put(t, 1, 2, 3, 4)
		p.put(t, 2, 2, 3, 4)
		p.check(t)
		p.checkDays(t)
	}
}

// Of all arguments, alone or together with any other one.
func TestAnyArguments(t *testing.T) {
	p := begin()
	for _, a := range someNumbers() {
		for _, b := range someNumbers() {
			p.put(t, a, b, int64(a), b)
			p.heard(t, b)
			p.put(t, b, a, int64(b), a)
			p.drop(t, b, a)
		}
		p.check(t)
		c := p.clone()
		c.say(t, a)
		c.check(t)
		c.say(t, a)
		c.check(t)
	}
}

// Beyond the greatest key, day or number of tries all goes on, with the numbers'
// wrap-round.
func TestBeyondTheGreatestNumbers(t *testing.T) {
	p := load(t, greatest, message(1, 2, greatest, 3), message(2, 3, 1, 3), message(3, 1, greatest, 3), message(4, 1, 1, 3))
	p.put(t, 2, 1, 1, greatest)
	p.put(t, 2, 1, 1, greatest-1)
	p.put(t, 3, 2, 1, greatest)
	p.check(t)
	for _, now := range []int{3, smallest, greatest, greatest - 1, 0} {
		p.say(t, now)
		p.check(t)
	}
	for _, key := range []int{greatest, smallest, smallest + 1, 1, 2} {
		p.heard(t, key)
		p.check(t)
	}
}
