package saga_test

import (
	"math/rand"
	"slices"
	"testing"

	"recoup/api"
	"recoup/outbox"
	"recoup/rma"
)

// letter is a message that was said, or a reply to it.
type letter struct {
	isReply, yes bool
	m            outbox.Message
}

// outside is a saga, and those who hear what it says and reply, over a net that
// loses letters, doubles them, and brings them in any order. Of each key they
// remember what they replied, and do what it asks for but once.
type outside struct {
	pair
	r       *rand.Rand
	net     []letter
	replied map[int]bool
	paid    map[int]int64 // by the returns' numbers
	sent    map[int]int   // how often each unit was shipped
	back    map[int]int   // how often each unit was sent back
}

// say puts messages on the net, some of which are lost.
func (o *outside) say(l []outbox.Message) {
	for _, m := range l {
		if o.r.Intn(4) > 0 {
			o.net = append(o.net, letter{m: m})
		}
	}
}

// answer is what those outside reply to a message.
func (o *outside) answer(m outbox.Message) bool {
	yes, ok := o.replied[m.Key]
	if ok {
		return yes
	}
	yes = o.r.Intn(4) > 0
	o.replied[m.Key] = yes
	switch {
	case yes && m.Kind == outbox.Pay:
		o.paid[m.RMA] += m.Value
	case yes && m.Kind == outbox.Ship:
		o.sent[int(m.Value)]++
	case yes && m.Kind == outbox.Back:
		o.back[int(m.Value)]++
	}
	return yes
}

// deliver takes any letter off the net, or leaves it there, too.
func (o *outside) deliver(t *testing.T) {
	if len(o.net) == 0 {
		return
	}
	k := o.r.Intn(len(o.net))
	l := o.net[k]
	if o.r.Intn(3) > 0 {
		o.net = slices.Delete(o.net, k, k+1)
	}
	if l.isReply {
		_, said, _ := o.do(t, reply(l.m.Key, l.yes))
		o.say(said)
	} else if yes := o.answer(l.m); o.r.Intn(4) > 0 {
		o.net = append(o.net, letter{isReply: true, yes: yes, m: l.m})
	}
}

// ask does any command but a reply, which comes from outside alone.
func (o *outside) ask(t *testing.T) {
	c := o.someChange(o.r)
	switch o.r.Intn(4) {
	case 0:
		c = o.someRequest(o.r)
	case 1:
		c = tick(1 + o.r.Intn(3))
	}
	_, said, _ := o.do(t, c)
	o.say(said)
}

// check checks that nobody has more than what is theirs.
func (o *outside) check(t *testing.T) {
	t.Helper()
	o.mustHold(t)
	for _, r := range o.s.RMAs() {
		if all := o.paid[r.Number] + r.Credited + r.Given; all > r.Worth || r.Paid > o.paid[r.Number] || rma.Done(r) && r.Paid != o.paid[r.Number] {
			t.Fatalf("%+v was paid %d", r, o.paid[r.Number])
		}
	}
	for unit, n := range o.sent {
		if n > 1 {
			t.Fatalf("%d was shipped %d times", unit, n)
		}
	}
}

// end looks at what is at the dock, and lets days go by, until all is done.
func (o *outside) end(t *testing.T) {
	t.Helper()
	for range 3000 {
		if o.isStill() {
			return
		}
		for _, r := range o.s.RMAs() {
			if r.State == rma.Docked {
				_, said, _ := o.do(t, grade(r.Number, r.Units[slices.Index(r.Grades, -1)], o.r.Intn(4)))
				o.say(said)
			}
		}
		for range 5 {
			o.deliver(t)
		}
		if _, said, e := o.do(t, tick(1)); e == api.OK {
			o.say(said)
		}
	}
	t.Fatalf("%+v doesn't come to an end", o.s.Parts())
}

// Whatever is lost, doubled or late: what was paid and sent is what the returns
// tell in the end, and each comes to one.
func TestPaidOnceWhateverIsLost(t *testing.T) {
	r := rand.New(rand.NewSource(4))
	var paid int64
	sent, back, closed := 0, 0, 0
	for range 1000 {
		o := &outside{pair: create(t, someConfig(r)), r: r, replied: map[int]bool{}, paid: map[int]int64{}, sent: map[int]int{}, back: map[int]int{}}
		for range r.Intn(200) {
			if r.Intn(2) == 0 {
				o.ask(t)
			} else {
				o.deliver(t)
			}
			if r.Intn(10) == 0 {
				o.check(t)
			}
		}
		o.end(t)
		o.check(t)
		o.mustHaveWhatIsTold(t)
		for _, one := range o.s.RMAs() {
			if paid += one.Paid; one.State == rma.Closed {
				closed++
			}
		}
		sent, back = sent+len(o.sent), back+len(o.back)
	}
	if paid < 30000 || sent < 30 || back < 200 || closed < 500 {
		t.Error(paid, sent, back, closed)
	}
}

// mustHaveWhatIsTold checks that a unit went out just if it was sent, and what was
// paid is what the account has.
func (o *outside) mustHaveWhatIsTold(t *testing.T) {
	t.Helper()
	s := o.s.Stock()
	for unit := range o.units {
		if (s.Place(unit) == 8) != (o.sent[unit] == 1) {
			t.Fatalf("%d is at %d, and was sent %d times", unit, s.Place(unit), o.sent[unit])
		}
		if received, graded := s.Seen(unit); o.back[unit] > 0 && !(received && graded) {
			t.Fatalf("%d was sent back unseen", unit)
		}
	}
	var all int64
	for _, sum := range o.paid {
		all += sum
	}
	if have := o.s.Ledger().Have; have[1] != 0 || have[2] != all {
		t.Fatalf("%v; %d was paid", have, all)
	}
}
