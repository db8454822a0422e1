package saga_test

import (
	"testing"

	"recoup/api"
	"recoup/outbox"
	"recoup/rma"
)

func TestRepliesToNoMessage(t *testing.T) {
	p := create(t, sample())
	for _, key := range []int{0, 1, 2, 65536, 1<<32 - 1} {
		p.take(t, reply(key, true), api.ErrOld)
		p.take(t, reply(key, false), api.ErrOld)
	}
	p.take(t, ask(0, 0), api.OK)
	p.take(t, ask(0, 1), api.OK)
	for _, key := range []int{0, 3, 257, 65537, 1<<32 - 1} {
		p.take(t, reply(key, true), api.ErrOld)
		p.take(t, reply(key, false), api.ErrOld)
	}
	p.take(t, reply(2, true), api.OK)
	p.take(t, reply(2, true), api.ErrOld)
	p.take(t, reply(2, false), api.ErrOld)
	p.mustBe(t, 1, rma.Open)
	p.mustBe(t, 2, rma.Labelled)
}

func TestRepliesToLabels(t *testing.T) {
	p := create(t, sample())
	p.take(t, wanting(ask(0, 0), 1), api.OK)
	p.take(t, wanting(ask(0, 1), 1), api.OK)
	p.take(t, tick(3), api.OK)
	mustSay(t, p.take(t, reply(1, true), api.OK))
	p.mustBe(t, 1, rma.Labelled, 0, 0, 0, 0)
	p.mustBeDue(t, 14, 1, 14, 2)
	mustSay(t, p.take(t, reply(2, false), api.OK))
	p.mustBe(t, 2, rma.Expired, 0, 0, 0, 0)
	p.mustBeDue(t, 14, 1)
	p.mustBeAt(t, 0, 0, 1, 0, 10, 7, 11, 3)
	if l := p.s.Outbox().All(); len(l) != 0 {
		t.Error(l)
	}
	p.take(t, ask(0, 1), api.OK)
}

func TestRepliesToPays(t *testing.T) {
	p := create(t, sample())
	_, said := p.settled(t, ask(0, 0), 0)
	c := p.clone()
	mustSay(t, p.take(t, reply(said[0].Key, true), api.OK))
	p.mustBe(t, 1, rma.Closed, 988, 988, 0, 0)
	p.mustHaveSums(t, -988, 0, 988, 0, 0)
	mustSay(t, c.take(t, reply(said[0].Key, false), api.OK))
	c.mustBe(t, 1, rma.Closed, 988, 0, 988, 0)
	c.mustHaveSums(t, -988, 0, 0, 988, 0)
	if r := c.one(1); r.Credit {
		t.Error(r)
	}
}

func TestRepliesToShips(t *testing.T) {
	p := create(t, sample())
	_, said := p.settled(t, wanting(ask(0, 0), 1), 0)
	yes, no := p.clone(), p.clone()
	mustSay(t, yes.take(t, reply(said[0].Key, true), api.OK))
	yes.mustBe(t, 1, rma.Settling, 988, 0, 0, 900)
	yes.mustHaveSums(t, -988, 88, 0, 0, 900)
	yes.mustBeAt(t, 10, 8, 11, 3)
	if r := yes.one(1); r.Reserved != 10 {
		t.Error(r)
	}
	mustSay(t, yes.take(t, reply(said[1].Key, true), api.OK))
	yes.mustBe(t, 1, rma.Closed, 988, 88, 0, 900)
	yes.mustHaveSums(t, -988, 0, 88, 0, 900)

	no.take(t, tick(2), api.OK)
	mustSay(t, no.take(t, reply(said[0].Key, false), api.OK), [5]int{outbox.Pay, 1, 900, 1, 3})
	no.mustBe(t, 1, rma.Settling, 988, 0, 0, 0)
	no.mustHaveSums(t, -988, 988, 0, 0, 0)
	no.mustBeAt(t, 10, 3, 11, 3)
	if r := no.one(1); r.Reserved != -1 {
		t.Error(r)
	}
	no.take(t, reply(said[1].Key, true), api.OK)
	no.mustBe(t, 1, rma.Settling, 988, 88, 0, 0)
	no.take(t, reply(4, true), api.OK)
	no.mustBe(t, 1, rma.Closed, 988, 988, 0, 0)
	no.mustHaveSums(t, -988, 0, 988, 0, 0)
}

// By credit the price is credited at once, if the unit isn't sent.
func TestRepliesToShipsByCredit(t *testing.T) {
	p := create(t, sample())
	_, said := p.settled(t, wanting(byCredit(ask(0, 0)), 1), 0)
	p.mustBe(t, 1, rma.Settling, 988, 0, 88, 0)
	c := p.clone()
	mustSay(t, p.take(t, reply(said[0].Key, false), api.OK))
	p.mustBe(t, 1, rma.Closed, 988, 0, 988, 0)
	p.mustHaveSums(t, -988, 0, 0, 988, 0)
	c.take(t, reply(said[0].Key, true), api.OK)
	c.mustBe(t, 1, rma.Closed, 988, 0, 88, 900)
	c.mustHaveSums(t, -988, 0, 0, 88, 900)
}

// A Pay that isn't paid is credited, though another one may be paid yet.
func TestRepliesToTwoPays(t *testing.T) {
	p := create(t, sample())
	_, said := p.settled(t, wanting(ask(0, 0), 1), 0)
	p.take(t, reply(said[0].Key, false), api.OK)
	p.take(t, reply(said[1].Key, false), api.OK)
	p.mustBe(t, 1, rma.Settling, 988, 0, 88, 0)
	p.take(t, reply(4, true), api.OK)
	p.mustBe(t, 1, rma.Closed, 988, 900, 88, 0)
	p.mustHaveSums(t, -988, 0, 900, 88, 0)
}

func TestRepliesToBacks(t *testing.T) {
	for _, yes := range []bool{true, false} {
		p := create(t, sample())
		p.docked(t, ask(0, 0, 1))
		back := p.take(t, grade(1, 0, 3), api.OK)
		p.mustBeAt(t, 0, 8, 1, 2)
		early := p.clone()
		said := p.take(t, grade(1, 1, 0), api.OK)
		place := 6
		if yes {
			place = 0
		}
		// Ahead of being settled it isn't closed.
		mustSay(t, early.take(t, reply(back[0].Key, yes), api.OK))
		early.mustBeAt(t, 0, place, 1, 2)
		early.mustBe(t, 1, rma.Docked, 0, 0, 0, 0)
		early.take(t, grade(1, 1, 2), api.OK)
		early.mustBe(t, 1, rma.Closed, 0, 0, 0, 0)

		mustSay(t, p.take(t, reply(back[0].Key, yes), api.OK))
		p.mustBeAt(t, 0, place, 1, 3)
		p.mustBe(t, 1, rma.Settling, 988, 0, 0, 0)
		p.take(t, reply(said[0].Key, true), api.OK)
		p.mustBe(t, 1, rma.Closed, 988, 988, 0, 0)
		p.mustHaveSums(t, -988, 0, 988, 0, 0)
		if received, graded := p.s.Stock().Seen(0); !received || !graded {
			t.Error(received, graded)
		}
	}
}

// What was sent back may come again, and is worth what it is then.
func TestComingAgain(t *testing.T) {
	p := create(t, sample())
	for number := 1; number < 5; number++ {
		_, said := p.settled(t, ask(0, 0), 3)
		p.mustBe(t, number, rma.Settling, 0, 0, 0, 0)
		p.take(t, reply(said[0].Key, true), api.OK)
		p.mustBe(t, number, rma.Closed, 0, 0, 0, 0)
		p.made(t).check(t)
	}
	number, said := p.settled(t, ask(0, 0), 0)
	p.take(t, reply(said[0].Key, true), api.OK)
	p.mustBe(t, number, rma.Closed, 988, 988, 0, 0)
	p.mustBeAt(t, 0, 3)
}

// A return is closed by the last reply, in whatever order they come.
func TestRepliesInAnyOrder(t *testing.T) {
	for _, keys := range [][]int{{2, 3, 4}, {2, 4, 3}, {3, 2, 4}, {3, 4, 2}, {4, 2, 3}, {4, 3, 2}} {
		p := create(t, sample())
		p.docked(t, wanting(ask(0, 0, 1), 1))
		p.take(t, grade(1, 0, 3), api.OK)
		p.take(t, grade(1, 1, 0), api.OK)
		other, _ := p.settled(t, ask(0, 2), 0)
		for k, key := range keys {
			p.mustBe(t, 1, rma.Settling)
			p.take(t, reply(key, true), api.OK)
			p.take(t, reply(key, k == 0), api.ErrOld)
		}
		p.mustBe(t, 1, rma.Closed, 988, 88, 0, 900)
		p.mustBe(t, other, rma.Settling, 987, 0, 0, 0)
	}
}
