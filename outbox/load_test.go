package outbox_test

import (
	"math"
	"slices"
	"testing"

	"recoup/api"
	"recoup/outbox"
)

func TestLoadOfNone(t *testing.T) {
	for _, next := range someNumbers() {
		for _, l := range [][]outbox.Message{nil, {}} {
			o, e := outbox.Load(next, l)
			if next < 1 {
				if o != nil || e != api.ErrArg {
					t.Error(next, o, e)
				}
				continue
			}
			if e != api.OK || o.NextKey() != next || len(o.All()) != 0 {
				t.Error(next, o, e)
			}
		}
	}
}

func TestLoadByHand(t *testing.T) {
	l := []outbox.Message{
		{Key: 1, Kind: outbox.Label, RMA: 1, Value: 0, Tries: 1, Due: 3},
		{Key: 4, Kind: outbox.Pay, RMA: 1, Value: 990, Tries: 7, Due: 2},
		{Key: 5, Kind: outbox.Back, RMA: 2, Value: 6, Tries: 2, Due: 0},
	}
	o, e := outbox.Load(6, l)
	if e != api.OK || !slices.Equal(o.All(), l) || o.NextKey() != 6 || o.Waits(1) != 1 || o.Waits(2) != 1 {
		t.Fatal(o, e)
	}
	if said, over := o.Again(1); len(over) != 0 || !slices.Equal(said, []outbox.Message{{Key: 5, Kind: 4, RMA: 2, Value: 6, Tries: 3, Due: 5}}) {
		t.Error(said, over)
	}
	if m := o.Put(3, 3, 9, 1); m != (outbox.Message{Key: 6, Kind: 3, RMA: 3, Value: 9, Tries: 1, Due: 2}) {
		t.Error(m)
	}
	if m, ok := o.Heard(4); !ok || m != l[1] {
		t.Error(m, ok)
	}
}

// The key that is next is above all of them.
func TestLoadAsksNext(t *testing.T) {
	for _, last := range []int{1, 2, 9, 65535, 1 << 31, 1 << 32, greatest - 1} {
		for _, next := range []int{last + 1, last + 2, greatest} {
			if next > last {
				load(t, next, message(last, 2, 1, 1))
			}
		}
		for _, next := range []int{last, last - 1, 1, 0, -1, -last, smallest} {
			mustNotLoad(t, next, message(last, 2, 1, 1))
		}
	}
	mustNotLoad(t, greatest, message(greatest, 2, 1, 1))
	mustNotLoad(t, smallest, message(greatest, 2, 1, 1))
	mustNotLoad(t, 3, message(1, 2, 1, 1), message(2, 2, 1, 1), message(3, 2, 1, 1))
	mustNotLoad(t, 3, message(1, 2, 1, 1), message(3, 2, 1, 1), message(4, 2, 1, 1))
	load(t, 4, message(1, 2, 1, 1), message(2, 2, 1, 1), message(3, 2, 1, 1))
}

func TestLoadAsksKeys(t *testing.T) {
	for _, key := range someNumbers() {
		one := outbox.Message{Key: key, Kind: 2, RMA: 1, Tries: 1}
		if key < 1 {
			mustNotLoad(t, greatest, one)
			mustNotLoad(t, 1, one)
			continue
		}
		if key < greatest {
			load(t, greatest, one)
		}
	}
	for _, c := range []struct {
		keys []int
		ok   bool
	}{
		{[]int{1, 2, 3}, true}, {[]int{1, 2, 7}, true}, {[]int{3, 5, 99}, true},
		{[]int{1, 1}, false}, {[]int{2, 1}, false}, {[]int{1, 2, 2}, false}, {[]int{1, 3, 2}, false}, {[]int{5, 6, 4}, false}, {[]int{2, 2, 3}, false}, {[]int{3, 2, 1}, false},
		{[]int{0, 1}, false}, {[]int{-1, 0, 1}, false}, {[]int{-1, 1}, false}, {[]int{1, 0}, false}, {[]int{1, -1}, false}, {[]int{1, -5, 2}, false}, {[]int{1, 100}, false}, {[]int{1, 101, 2}, false},
	} {
		var l []outbox.Message
		for _, key := range c.keys {
			l = append(l, message(key, 3, 2, 1))
		}
		if c.ok {
			load(t, 100, l...)
		} else {
			mustNotLoad(t, 100, l...)
		}
	}
}

func TestLoadAsksKinds(t *testing.T) {
	for kind := 1; kind <= 4; kind++ {
		load(t, 9, message(3, kind, 1, 1), message(4, 5-kind, 1, 1))
	}
	for _, kind := range noKinds() {
		mustNotLoad(t, 9, message(3, kind, 1, 1))
		mustNotLoad(t, 9, message(2, 1, 1, 1), message(3, kind, 1, 1), message(4, 2, 1, 1))
	}
}

func TestLoadAsksTries(t *testing.T) {
	for _, tries := range append(someNumbers(), 8, 9, 255, 256) {
		for kind := 1; kind <= 4; kind++ {
			if tries >= 1 {
				load(t, 9, message(3, kind, tries, 1))
				load(t, 9, message(2, 1, 1, 1), message(3, kind, tries, 1))
				continue
			}
			mustNotLoad(t, 9, message(3, kind, tries, 1))
			mustNotLoad(t, 9, message(2, 1, 1, 1), message(3, kind, tries, 1), message(4, 2, 1, 1))
		}
	}
}

// Of the return, the value and the day nothing is asked.
func TestLoadDoesNotAskTheRest(t *testing.T) {
	for _, n := range someNumbers() {
		load(t, 2, outbox.Message{Key: 1, Kind: 1, RMA: n, Tries: 1})
		load(t, 2, outbox.Message{Key: 1, Kind: 2, Value: int64(n), Tries: 1})
		p := load(t, 2, outbox.Message{Key: 1, Kind: 3, Tries: 1, Due: n})
		p.say(t, n)
		p.check(t)
	}
	load(t, 2, outbox.Message{Key: 1, Kind: 4, Value: math.MinInt64, Tries: 1})
	load(t, 3, outbox.Message{Key: 1, Kind: 4, RMA: 5, Value: 7, Tries: 1}, outbox.Message{Key: 2, Kind: 4, RMA: 5, Value: 7, Tries: 1})
}

// A single wrong one among many, the first, the last, or any between.
func TestLoadAsksEachOne(t *testing.T) {
	for _, n := range []int{1, 2, 3, 10, 60} {
		var l []outbox.Message
		for k := range n {
			l = append(l, message(2*k+2, k%4+1, k%6+1, k))
		}
		load(t, 2*n+1, l...)
		for k := range n {
			for _, wrong := range []outbox.Message{
				message(0, 1, 1, 1), message(2*n+1, 1, 1, 1), message(-2*k-2, 1, 1, 1),
				message(2*k+2, 0, 1, 1), message(2*k+2, 5, 1, 1), message(2*k+2, 1, 0, 1), message(2*k+2, 1, -1, 1),
			} {
				c := slices.Clone(l)
				c[k] = wrong
				mustNotLoad(t, 2*n+1, c...)
			}
		}
	}
}

// What an outbox has is loaded as it is, and goes on as the other one does.
func TestLoadOfAllGoesOnLikeTheOther(t *testing.T) {
	p := mixed(20)
	for day := range 50 {
		if day%3 == 0 {
			p.put(t, day%4+1, day%5, int64(day), day)
		}
		p.heard(t, day*5%20)
		p.say(t, day)
		o, e := outbox.Load(p.o.NextKey(), p.o.All())
		if e != api.OK {
			t.Fatal(day, e)
		}
		other := pair{o, &due{p.next, slices.Clone(p.l)}}
		other.check(t)
		other.put(t, 1, 1, 1, day)
		other.checkDays(t)
		other.drop(t, day%5, day%4+1)
		other.check(t)
	}
}
