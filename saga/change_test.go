package saga_test

import (
	"testing"

	"recoup/api"
	"recoup/command"
	"recoup/rma"
)

// all are all commands of a return, but those that ask for more than its number.
func all(number int) []command.Command {
	return []command.Command{cancel(number), deny(number), pick(number), receive(number)}
}

func TestNoSuchReturn(t *testing.T) {
	p := create(t, sample())
	none := func(numbers ...int) {
		t.Helper()
		for _, number := range numbers {
			for _, c := range append(all(number), grade(number, 0, 0), grade(number, 99, 9)) {
				p.take(t, c, api.ErrNone)
			}
		}
	}
	none(0, 1, 2, 100, 101, 255, 256, 65535)
	p.take(t, ask(0, 0), api.OK)
	none(0, 2, 3, 100, 257, 65535)
	p.take(t, ask(0, 1), api.OK)
	none(0, 3, 65535)
	p.take(t, cancel(2), api.OK)
	p.mustBe(t, 1, rma.Open)
	p.mustBe(t, 2, rma.Cancelled)
}

// What is taken in each state, of Cancel, Deny, Pick, Receive and Grade, and in
// which state the return is then; 0 is ErrState.
func TestEachCommandInEachState(t *testing.T) {
	for _, c := range []struct {
		state int
		then  [5]int
	}{
		{rma.Open, [5]int{rma.Cancelled, rma.Denied, 0, 0, 0}},
		{rma.Labelled, [5]int{rma.Cancelled, rma.Denied, rma.Moving, 0, 0}},
		{rma.Moving, [5]int{0, 0, 0, rma.Docked, 0}},
		{rma.Docked, [5]int{0, 0, 0, 0, rma.Settling}},
		{rma.Settling, [5]int{}}, {rma.Closed, [5]int{}}, {rma.Denied, [5]int{}}, {rma.Expired, [5]int{}}, {rma.Cancelled, [5]int{}},
	} {
		for k, one := range append(all(1), grade(1, 1, 0)) {
			p := create(t, sample())
			p.toState(t, c.state)
			want := api.OK
			if c.then[k] == 0 {
				want, c.then[k] = api.ErrState, c.state
			}
			p.take(t, one, want)
			p.mustBe(t, 1, c.then[k])
			p.mustHold(t)
		}
	}
}

// toState makes the return 1, of the unit 1, be in a state.
func (p pair) toState(t *testing.T, state int) {
	t.Helper()
	said := p.take(t, ask(0, 1), api.OK)
	switch state {
	case rma.Open:
	case rma.Denied:
		p.take(t, deny(1), api.OK)
	case rma.Cancelled:
		p.take(t, cancel(1), api.OK)
	case rma.Expired:
		p.take(t, reply(said[0].Key, false), api.OK)
	default:
		p.take(t, reply(said[0].Key, true), api.OK)
	}
	for k, c := range []command.Command{pick(1), receive(1), grade(1, 1, 0), reply(2, true)} {
		if rma.Moving+k <= state && state <= rma.Closed {
			p.take(t, c, api.OK)
		}
	}
	p.mustBe(t, 1, state)
}

func TestEnding(t *testing.T) {
	for _, c := range []struct {
		by    command.Command
		state int
	}{{cancel(2), rma.Cancelled}, {deny(2), rma.Denied}} {
		for _, labelled := range []bool{false, true} {
			p := create(t, sample())
			p.take(t, wanting(ask(0, 0), 1), api.OK)
			p.take(t, wanting(ask(0, 1, 2), 1), api.OK)
			p.take(t, ask(0, 3), api.OK)
			if labelled {
				p.take(t, reply(2, true), api.OK)
			}
			p.mustBeAt(t, 10, 7, 11, 7)
			if said := p.take(t, c.by, api.OK); len(said) != 0 {
				t.Error(said)
			}
			p.mustBe(t, 2, c.state, 0, 0, 0, 0)
			if r := p.one(2); r.Reserved != -1 || r.Want != 1 {
				t.Error(r)
			}
			p.mustBeAt(t, 1, 0, 2, 0, 10, 7, 11, 3)
			p.mustBeDue(t, 14, 1, 14, 3)
			mustSay(t, p.s.Outbox().All(), [5]int{1, 1, 0, 1, 1}, [5]int{1, 3, 0, 1, 1})
			p.take(t, reply(2, true), api.ErrOld)
			p.take(t, ask(0, 1, 2), api.OK)
		}
	}
}

func TestPicking(t *testing.T) {
	p := create(t, sample())
	p.take(t, ask(0, 4), api.OK)
	p.labelled(t, ask(0, 0, 1))
	p.take(t, tick(4), api.OK)
	if said := p.take(t, pick(2), api.OK); len(said) != 0 {
		t.Error(said)
	}
	p.mustBeAt(t, 0, 1, 1, 1, 2, 0, 4, 0)
	p.mustBeDue(t, 14, 1, 34, 2)
	p.mustBe(t, 2, rma.Moving, 0, 0, 0, 0)
}

func TestReceiving(t *testing.T) {
	p := create(t, sample())
	p.labelled(t, ask(0, 4))
	p.moving(t, ask(0, 0, 1))
	if said := p.take(t, receive(2), api.OK); len(said) != 0 {
		t.Error(said)
	}
	p.mustBeAt(t, 0, 2, 1, 2, 2, 0, 4, 0)
	p.mustBeDue(t, 14, 1)
	p.mustBe(t, 2, rma.Docked, 0, 0, 0, 0)
	for unit, want := range []bool{true, true, false} {
		if received, graded := p.s.Stock().Seen(unit); received != want || graded {
			t.Error(unit, received, graded)
		}
	}
	// It waits at the dock for as long as it takes.
	p.take(t, tick(1000), api.OK)
	p.mustBe(t, 2, rma.Docked, 0, 0, 0, 0)
}

// A timer of a return that was picked up is the claim's alone.
func TestThePickedUpDoNotExpire(t *testing.T) {
	p := create(t, sample())
	p.labelled(t, ask(0, 0))
	p.take(t, tick(13), api.OK)
	p.take(t, pick(1), api.OK)
	p.take(t, tick(29), api.OK)
	p.mustBe(t, 1, rma.Moving)
	p.clone().take(t, receive(1), api.OK)
	p.take(t, tick(1), api.OK)
	p.mustBe(t, 1, rma.Settling, 988, 0, 0, 0)
	p.take(t, receive(1), api.ErrState)
}
