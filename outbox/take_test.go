package outbox_test

import (
	"testing"

	"recoup/outbox"
)

func TestHeardByHand(t *testing.T) {
	o := outbox.New()
	o.Put(outbox.Label, 1, 0, 10)
	o.Put(outbox.Pay, 2, 99, 10)
	o.Again(11)
	for _, c := range []struct {
		key  int
		want outbox.Message
		ok   bool
	}{
		{0, outbox.Message{}, false},
		{3, outbox.Message{}, false},
		{-2, outbox.Message{}, false},
		{2, outbox.Message{Key: 2, Kind: 2, RMA: 2, Value: 99, Tries: 2, Due: 13}, true},
		{2, outbox.Message{}, false},
		{1, outbox.Message{Key: 1, Kind: 1, RMA: 1, Tries: 2, Due: 13}, true},
		{1, outbox.Message{}, false},
	} {
		if got, ok := o.Heard(c.key); got != c.want || ok != c.ok {
			t.Error(c.key, got, ok)
		}
	}
	if said, over := o.Again(greatest); len(said) != 0 || len(over) != 0 || len(o.All()) != 0 || o.NextKey() != 3 {
		t.Error(said, over, o.All(), o.NextKey())
	}
}

// The first, the last, and any between; the others stay, and are said.
func TestHeardOfEachOfMany(t *testing.T) {
	for _, n := range []int{1, 2, 3, 4, 9, 33} {
		whole := mixed(n)
		for key := 1; key <= n; key++ {
			p := whole.clone()
			if !p.heard(t, key) || p.heard(t, key) {
				t.Error(n, key)
			}
			p.check(t)
			p.checkDays(t)
			p.heard(t, key%n+1)
			p.check(t)
			p.checkDays(t)
		}
		whole.check(t)
	}
}

func TestHeardOfNone(t *testing.T) {
	p := mixed(5)
	p.heard(t, 4)
	p.drop(t, 1, outbox.Pay)
	for _, key := range append(someNumbers(), 4, 6, 8, 1<<32+2, 1<<32+3, 1<<32+5, -4) {
		if key > 0 && key < 6 {
			continue
		}
		if p.heard(t, key) {
			t.Error(key)
		}
		p.check(t)
	}
	for _, key := range []int{2, 4} {
		if p.heard(t, key) {
			t.Error(key)
		}
	}
	p.check(t)
	p.checkDays(t)
}

// What was given up isn't heard any more.
func TestHeardOfWhatWasGivenUp(t *testing.T) {
	p := load(t, 9, message(3, outbox.Label, 5, 4), message(5, outbox.Label, 4, 4), message(8, outbox.Pay, 5, 4))
	p.say(t, 4)
	for key, want := range map[int]bool{3: false, 5: true, 8: true} {
		if got, ok := p.o.Clone().Heard(key); ok != want || (got == outbox.Message{}) == want {
			t.Error(key, got, ok)
		}
	}
	p.heard(t, 3)
	p.heard(t, 5)
	p.check(t)
	p.heard(t, 8)
	p.check(t)
}

func TestDropByHand(t *testing.T) {
	o := outbox.New()
	for _, c := range []struct{ kind, rma int }{{1, 1}, {2, 1}, {1, 2}, {3, 1}, {1, 1}, {4, 1}, {2, 2}, {1, 1}} {
		o.Put(c.kind, c.rma, 5, 10)
	}
	for _, c := range []struct{ rma, kind, want, left int }{
		{3, 1, 0, 8}, {1, 5, 0, 8}, {1, 0, 0, 8}, {0, 1, 0, 8},
		{1, outbox.Label, 3, 5}, {1, outbox.Label, 0, 5},
		{2, outbox.Pay, 1, 4}, {1, outbox.Pay, 1, 3},
		{1, outbox.Ship, 1, 2}, {1, outbox.Back, 1, 1}, {2, outbox.Ship, 0, 1},
	} {
		if got := o.Drop(c.rma, c.kind); got != c.want || len(o.All()) != c.left {
			t.Error(c, got, o.All())
		}
	}
	if l := o.All(); l[0] != (outbox.Message{Key: 3, Kind: 1, RMA: 2, Value: 5, Tries: 1, Due: 11}) || o.NextKey() != 9 {
		t.Error(l, o.NextKey())
	}
	if said, _ := o.Again(11); len(said) != 1 || said[0].Key != 3 {
		t.Error(said)
	}
}

// Each return and kind: of any other one nothing is dropped, and nothing that
// was is said again.
func TestDropOfEachReturnAndKind(t *testing.T) {
	for _, n := range []int{0, 1, 2, 12, 50} {
		whole := mixed(n)
		for rma := -1; rma < 5; rma++ {
			for kind := -1; kind < 7; kind++ {
				p := whole.clone()
				p.drop(t, rma, kind)
				p.check(t)
				if p.drop(t, rma, kind) != 0 {
					t.Error(n, rma, kind)
				}
				p.checkDays(t)
				p.drop(t, kind, rma)
				p.check(t)
			}
		}
		whole.check(t)
	}
}

func TestDropOfAnyNumbers(t *testing.T) {
	p := begin()
	for _, a := range someNumbers() {
		for _, b := range someNumbers() {
			p.put(t, a, b, 0, 0)
		}
	}
	for _, a := range someNumbers() {
		for _, b := range someNumbers() {
			if p.drop(t, a, b) != 1 || p.drop(t, a, b) != 0 {
				t.Error(a, b)
			}
		}
	}
	p.check(t)
	if len(p.o.All()) != 0 {
		t.Error(p.o.All())
	}
}

// A label isn't waited for; all else is, of that return alone.
func TestWaitsByHand(t *testing.T) {
	o := outbox.New()
	for _, c := range []struct{ kind, rma, ofOne, ofTwo int }{
		{outbox.Label, 1, 0, 0}, {outbox.Pay, 1, 1, 0}, {outbox.Label, 1, 1, 0}, {outbox.Ship, 1, 2, 0},
		{outbox.Label, 2, 2, 0}, {outbox.Back, 2, 2, 1}, {outbox.Back, 1, 3, 1}, {outbox.Pay, 1, 4, 1}, {outbox.Pay, 3, 4, 1},
	} {
		o.Put(c.kind, c.rma, 1, 0)
		if o.Waits(1) != c.ofOne || o.Waits(2) != c.ofTwo {
			t.Error(c, o.Waits(1), o.Waits(2))
		}
	}
	o.Again(1)
	if o.Waits(1) != 4 || o.Waits(2) != 1 || o.Waits(3) != 1 || o.Waits(0) != 0 || o.Waits(4) != 0 || o.Waits(-1) != 0 {
		t.Error("said again:", o.All())
	}
	o.Heard(4)
	if o.Waits(1) != 3 {
		t.Error(o.Waits(1))
	}
	o.Drop(1, outbox.Pay)
	if o.Waits(1) != 1 || o.Waits(3) != 1 {
		t.Error(o.Waits(1), o.Waits(3))
	}
	o.Drop(1, outbox.Label)
	if o.Waits(1) != 1 {
		t.Error(o.Waits(1))
	}
}

// Once as many as there are wait, each is there, and heard once.
func TestVeryMany(t *testing.T) {
	const n = 50000
	o := outbox.New()
	for k := range n {
		o.Put(outbox.Pay+k%2, k%7, int64(k), k%11)
	}
	said, over := o.Again(6)
	if len(said)+len(over) != n/11*6+5 || len(o.All()) != n || o.NextKey() != n+1 {
		t.Fatal(len(said), len(over), len(o.All()), o.NextKey())
	}
	for k := range said {
		if k > 0 && said[k-1].Key >= said[k].Key || said[k].Tries != 2 || said[k].Due != 8 {
			t.Fatal(k, said[k])
		}
	}
	for key := n; key > 0; key-- {
		m, ok := o.Heard(key)
		if m.Key != key || m.Value != int64(key-1) || !ok {
			t.Fatal(key, m, ok)
		}
	}
	if said, over = o.Again(greatest); len(o.All())+len(said)+len(over) != 0 {
		t.Error(len(o.All()), len(said), len(over))
	}
}
