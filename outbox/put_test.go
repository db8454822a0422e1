package outbox_test

import (
	"math"
	"slices"
	"testing"

	"recoup/api"
	"recoup/outbox"
)

func TestKindsAreOneToFour(t *testing.T) {
	if got := [4]int{outbox.Label, outbox.Pay, outbox.Ship, outbox.Back}; got != [4]int{1, 2, 3, 4} {
		t.Error(got)
	}
}

func TestANewOutbox(t *testing.T) {
	p := begin()
	p.check(t)
	if p.o.NextKey() != 1 || len(p.o.All()) != 0 {
		t.Error(p.o.NextKey(), p.o.All())
	}
	said, over := p.o.Again(greatest)
	if len(said) != 0 || len(over) != 0 {
		t.Error(said, over)
	}
	for _, n := range someNumbers() {
		p.heard(t, n)
		p.drop(t, n, 1)
		p.drop(t, 1, n)
		p.say(t, n)
	}
	p.check(t)
}

func TestPutByHand(t *testing.T) {
	o := outbox.New()
	for _, c := range []struct {
		kind, rma int
		value     int64
		now       int
		want      outbox.Message
	}{
		{outbox.Label, 1, 0, 0, outbox.Message{Key: 1, Kind: 1, RMA: 1, Value: 0, Tries: 1, Due: 1}},
		{outbox.Pay, 1, 990, 0, outbox.Message{Key: 2, Kind: 2, RMA: 1, Value: 990, Tries: 1, Due: 1}},
		{outbox.Ship, 2, 7, 3, outbox.Message{Key: 3, Kind: 3, RMA: 2, Value: 7, Tries: 1, Due: 4}},
		{outbox.Back, 100, 199, api.MaxDay, outbox.Message{Key: 4, Kind: 4, RMA: 100, Value: 199, Tries: 1, Due: 100001}},
		{outbox.Pay, 1, 990, 0, outbox.Message{Key: 5, Kind: 2, RMA: 1, Value: 990, Tries: 1, Due: 1}},
		{outbox.Pay, 3, api.MaxCents, 99, outbox.Message{Key: 6, Kind: 2, RMA: 3, Value: 1 << 50, Tries: 1, Due: 100}},
	} {
		if got := o.Put(c.kind, c.rma, c.value, c.now); got != c.want {
			t.Error(got, "is not", c.want)
		}
		if o.NextKey() != c.want.Key+1 {
			t.Error(o.NextKey(), "behind", c.want.Key)
		}
		if l := o.All(); len(l) != c.want.Key || l[len(l)-1] != c.want {
			t.Error(l)
		}
	}
}

// Nothing is refused: any kind, return, value and day are as they are.
func TestPutOfAnything(t *testing.T) {
	p := begin()
	for k, kind := range append(noKinds(), 1, 2, 3, 4) {
		for _, n := range someNumbers() {
			p.put(t, kind, n, int64(n), k)
			p.put(t, kind, k, int64(k), n)
		}
	}
	p.put(t, 2, 1, math.MaxInt64, 1)
	p.put(t, 2, 1, math.MinInt64, 1)
	p.check(t)
	p.say(t, 3)
	p.check(t)
}

// A key is given once, also if what had it is there no more.
func TestKeysGoOn(t *testing.T) {
	p := begin()
	for key := 1; key <= 40; key += 4 {
		p.put(t, outbox.Label, key, 0, key)
		p.heard(t, key)
		p.check(t)
		p.put(t, outbox.Pay, 7, 3, key)
		p.drop(t, 7, outbox.Pay)
		p.check(t)
		p.put(t, outbox.Label, 7, 3, -100)
		for day := range 5 {
			p.say(t, day*8-90)
		}
		p.check(t)
		if len(p.o.All()) != 0 || p.o.NextKey() != key+3 {
			t.Error(p.o.All(), p.o.NextKey())
		}
		p.put(t, outbox.Ship, 7, 3, 1000)
		p.say(t, 1001)
		p.heard(t, key+3)
	}
}

func TestKeysGoOnBehindLoad(t *testing.T) {
	for _, next := range []int{1, 2, 5, 1000, 65535, 65536, 1<<31 - 1, 1 << 31, 1 << 32, 1 << 62, greatest - 2} {
		p := load(t, next)
		p.put(t, 1, 2, 3, 4)
		p.check(t)
		p.put(t, 2, 2, 3, 4)
		p.check(t)
		p.heard(t, next)
		p.check(t)
		if got := p.o.NextKey(); got != next+2 {
			t.Error(next, got)
		}
		p.checkDays(t)
	}
}

// The keys of all are told in their order, however they came and went.
func TestAllIsByKeys(t *testing.T) {
	p := mixed(300)
	for key := 3; key < 290; key += 7 {
		p.heard(t, key)
	}
	p.say(t, 2)
	p.put(t, 1, 1, 1, 1)
	l := p.o.All()
	if !slices.IsSortedFunc(l, func(a, b outbox.Message) int { return a.Key - b.Key }) || len(l) != 260 {
		t.Error(len(l), l)
	}
	p.check(t)
}

func TestWait(t *testing.T) {
	for _, c := range []struct{ tries, want int }{
		{smallest, 0}, {smallest + 1, 0}, {-1 << 32, 0}, {-64, 0}, {-1, 0}, {0, 0}, {1, 1}, {2, 2}, {3, 4}, {4, 8}, {5, 8}, {6, 8}, {7, 8}, {8, 8}, {9, 8}, {10, 8}, {16, 8},
		{31, 8}, {32, 8}, {33, 8}, {34, 8}, {63, 8}, {64, 8}, {65, 8}, {66, 8}, {128, 8}, {256, 8}, {257, 8}, {1 << 16, 8}, {1 << 32, 8}, {1<<32 + 1, 8}, {greatest - 1, 8}, {greatest, 8},
	} {
		if got := outbox.Wait(c.tries); got != c.want {
			t.Errorf("Wait(%d): %d; want %d", c.tries, got, c.want)
		}
	}
	for tries := -300; tries < 300; tries++ {
		if got := outbox.Wait(tries); got != dueWait(tries) || got > api.MaxWait {
			t.Errorf("Wait(%d): %d", tries, got)
		}
	}
}
