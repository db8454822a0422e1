package outbox_test

import (
	"math"
	"slices"
	"testing"

	"recoup/api"
	"recoup/outbox"
)

const (
	greatest = math.MaxInt
	smallest = math.MinInt
)

// due is an outbox told by another hand: its messages, in the order in which
// they came.
type due struct {
	next int
	l    []outbox.Message
}

// dueWait is for how many days a message waits.
func dueWait(tries int) int {
	switch {
	case tries <= 0:
		return 0
	case tries == 1:
		return 1
	case tries == 2:
		return 2
	case tries == 3:
		return 4
	}
	return 8
}

// all are by their keys.
func (d *due) all() []outbox.Message {
	l := slices.Clone(d.l)
	slices.SortFunc(l, func(a, b outbox.Message) int {
		if a.Key < b.Key {
			return -1
		}
		return 1
	})
	return l
}

// take takes all away that are so, and tells them.
func (d *due) take(isOne func(outbox.Message) bool) []outbox.Message {
	var taken, left []outbox.Message
	for _, m := range d.all() {
		if isOne(m) {
			taken = append(taken, m)
		} else {
			left = append(left, m)
		}
	}
	d.l = left
	return taken
}

func (d *due) waits(rma int) int {
	n := 0
	for _, m := range d.l {
		if m.RMA == rma && m.Kind != 1 {
			n++
		}
	}
	return n
}

// again is what is said on a day, and what is given up.
func (d *due) again(now int) (said, over []outbox.Message) {
	over = d.take(func(m outbox.Message) bool { return m.Due <= now && m.Kind == 1 && m.Tries > 4 })
	said = d.take(func(m outbox.Message) bool { return m.Due <= now })
	for k := range said {
		said[k].Tries++
		said[k].Due = now + dueWait(said[k].Tries)
	}
	d.l = append(d.l, said...)
	return said, over
}

// pair is an outbox, and what is due of it.
type pair struct {
	o *outbox.Outbox
	*due
}

// begin is a pair of a new outbox.
func begin() pair { return pair{outbox.New(), &due{next: 1}} }

// load is a pair of an outbox of these.
func load(t *testing.T, next int, l ...outbox.Message) pair {
	t.Helper()
	o, e := outbox.Load(next, l)
	if e != api.OK || o == nil {
		t.Fatalf("Load(%d, %v): %p, %d", next, l, o, e)
	}
	p := pair{o, &due{next, slices.Clone(l)}}
	p.check(t)
	return p
}

// mustNotLoad checks that a Load is an error alone.
func mustNotLoad(t *testing.T, next int, l ...outbox.Message) {
	t.Helper()
	if o, e := outbox.Load(next, l); o != nil || e != api.ErrArg {
		t.Errorf("Load(%d, %v): %p, %d; want ErrArg alone", next, l, o, e)
	}
}

// clone is a pair of the outbox's clone.
func (p pair) clone() pair { return pair{p.o.Clone(), &due{p.next, slices.Clone(p.l)}} }

// put puts a message, and checks what is answered.
func (p pair) put(t *testing.T, kind, rma int, value int64, now int) outbox.Message {
	t.Helper()
	want := outbox.Message{Key: p.next, Kind: kind, RMA: rma, Value: value, Tries: 1, Due: now + 1}
	if got := p.o.Put(kind, rma, value, now); got != want {
		t.Errorf("Put(%d, %d, %d, %d): %v; want %v", kind, rma, value, now, got, want)
	}
	p.l = append(p.l, want)
	p.next++
	return want
}

// heard hears a message, and checks what is answered.
func (p pair) heard(t *testing.T, key int) bool {
	t.Helper()
	var want outbox.Message
	taken := p.take(func(m outbox.Message) bool { return m.Key == key })
	if len(taken) == 1 {
		want = taken[0]
	}
	if got, ok := p.o.Heard(key); got != want || ok != (len(taken) == 1) {
		t.Errorf("Heard(%d): %v, %v; want %v", key, got, ok, taken)
	}
	return len(taken) == 1
}

// say says what is due again, and checks what is answered.
func (p pair) say(t *testing.T, now int) (said, over []outbox.Message) {
	t.Helper()
	said, over = p.again(now)
	a, b := p.o.Again(now)
	if !slices.Equal(a, said) || !slices.Equal(b, over) {
		t.Errorf("Again(%d): %v, %v; want %v, %v", now, a, b, said, over)
	}
	return said, over
}

// drop drops messages, and checks what is answered.
func (p pair) drop(t *testing.T, rma, kind int) int {
	t.Helper()
	want := len(p.take(func(m outbox.Message) bool { return m.RMA == rma && m.Kind == kind }))
	if got := p.o.Drop(rma, kind); got != want {
		t.Errorf("Drop(%d, %d): %d; want %d", rma, kind, got, want)
	}
	return want
}

// check checks all that is told of an outbox.
func (p pair) check(t *testing.T) {
	t.Helper()
	want := p.all()
	if got := p.o.All(); !slices.Equal(got, want) {
		t.Errorf("All: %v; want %v", got, want)
	}
	if got := p.o.NextKey(); got != p.next {
		t.Errorf("NextKey: %d; want %d", got, p.next)
	}
	for _, m := range want {
		p.checkWaits(t, m.RMA)
	}
	for _, rma := range someNumbers() {
		p.checkWaits(t, rma)
	}
}

func (p pair) checkWaits(t *testing.T, rma int) {
	t.Helper()
	if got, want := p.o.Waits(rma), p.waits(rma); got != want {
		t.Errorf("Waits(%d): %d; want %d", rma, got, want)
	}
}

// checkDays checks what is said on each of the days that there are, on the one
// ahead of each, and so many times later.
func (p pair) checkDays(t *testing.T) {
	t.Helper()
	c := p.clone()
	for range 3 {
		for _, m := range c.all() {
			if m.Due > smallest {
				c.say(t, m.Due-1)
			}
			c.say(t, m.Due)
		}
		c.check(t)
	}
	c.say(t, greatest)
	c.check(t)
}
