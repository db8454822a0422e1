package saga_test

import (
	"testing"

	"recoup/api"
	"recoup/command"
	"recoup/outbox"
	"recoup/rma"
)

func TestWrongGrades(t *testing.T) {
	p := create(t, sample())
	p.docked(t, ask(0, 0, 2))
	for _, c := range []struct {
		unit, grade int
		want        api.Errno
	}{
		{0, 4, api.ErrArg}, {0, 5, api.ErrArg}, {0, 255, api.ErrArg}, {1, 5, api.ErrArg},
		{1, 0, api.ErrNone}, {3, 3, api.ErrNone}, {255, 0, api.ErrNone}, {1, 4, api.ErrNone},
	} {
		p.take(t, grade(1, c.unit, c.grade), c.want)
	}
	p.take(t, grade(1, 0, 0), api.OK)
	for g, want := range []api.Errno{api.ErrState, api.ErrState, api.ErrState, api.ErrState, api.ErrState, api.ErrArg, api.ErrArg} {
		p.take(t, grade(1, 0, g), want)
	}
	p.mustBe(t, 1, rma.Docked, 988, 0, 0, 0)
	p.take(t, grade(1, 2, 4), api.ErrArg)
	p.take(t, grade(1, 2, 1), api.OK)
	// In another state it isn't asked which unit and grade it is.
	p.take(t, grade(1, 2, 5), api.ErrState)
	p.take(t, grade(1, 99, 0), api.ErrState)
	p.labelled(t, ask(0, 1))
	p.take(t, grade(2, 1, 9), api.ErrState)
	p.take(t, pick(2), api.OK)
	p.take(t, grade(2, 0, 4), api.ErrState)
}

// Of each grade and reason: what the unit is worth, and where it goes.
func TestEachGrade(t *testing.T) {
	worths := [4][4]int64{{988, 494, 0, 0}, {890, 445, 0, 0}, {988, 494, 0, 0}, {0, 0, 0, 0}}
	for reason, l := range worths {
		for g, value := range l {
			p := create(t, sample())
			p.docked(t, because(ask(0, 0, 1), reason))
			said := p.take(t, grade(1, 0, g), api.OK)
			if g == 3 {
				mustSay(t, said, [5]int{outbox.Back, 1, 0, 1, 1})
			} else {
				mustSay(t, said)
			}
			p.mustBeAt(t, 0, []int{3, 4, 5, 8}[g], 1, 2)
			p.mustBe(t, 1, rma.Docked, value, 0, 0, 0)
			if received, graded := p.s.Stock().Seen(0); !received || !graded {
				t.Error(received, graded)
			}
			if r := p.one(1); r.Grades[0] != g || r.Grades[1] != -1 {
				t.Error(r)
			}
			p.mustHaveSums(t, 0, 0, 0, 0, 0)
			p.mustHold(t)
		}
	}
}

func TestSettlingPays(t *testing.T) {
	p := create(t, sample())
	p.docked(t, because(ask(0, 0, 1, 3), 1))
	p.take(t, tick(100), api.OK)
	p.take(t, grade(1, 1, 1), api.OK)
	p.take(t, grade(1, 0, 2), api.OK)
	said := p.take(t, grade(1, 3, 0), api.OK)
	mustSay(t, said, [5]int{outbox.Pay, 1, 445 + 444, 1, 101})
	p.mustBe(t, 1, rma.Settling, 889, 0, 0, 0)
	p.mustHaveSums(t, -889, 889, 0, 0, 0)
	p.mustBeAt(t, 1, 4, 0, 5, 3, 3)
}

func TestSettlingCredits(t *testing.T) {
	p := create(t, sample())
	number, said := p.settled(t, byCredit(ask(0, 0, 1)), 0)
	mustSay(t, said)
	p.mustBe(t, number, rma.Closed, 1976, 0, 1976, 0)
	p.mustHaveSums(t, -1976, 0, 0, 1976, 0)
	p.take(t, tick(5), api.OK)
	number, said = p.settled(t, ask(1, 7), 1)
	mustSay(t, said)
	p.mustBe(t, number, rma.Closed, 400, 0, 400, 0)
	p.mustHaveSums(t, -2376, 0, 0, 2376, 0)
}

// Of a worth of nothing nothing is paid; it is closed.
func TestSettlingNothing(t *testing.T) {
	for _, c := range []command.Command{ask(0, 0, 3), byCredit(ask(0, 0, 3)), wanting(ask(0, 0, 3), 1), wanting(ask(0, 0), 7)} {
		p := create(t, sample())
		number, said := p.settled(t, c, 2)
		mustSay(t, said)
		p.mustBe(t, number, rma.Closed, 0, 0, 0, 0)
		p.mustHaveSums(t, 0, 0, 0, 0, 0)
		p.mustBeAt(t, 10, 3, 11, 3, 13, 3)
	}
}

// A unit that goes back keeps a return from being closed, though nothing is paid.
func TestSettlingWaitsForWhatGoesBack(t *testing.T) {
	p := create(t, sample())
	p.docked(t, byCredit(ask(0, 0, 1, 2)))
	mustSay(t, p.take(t, grade(1, 1, 3), api.OK), [5]int{outbox.Back, 1, 1, 1, 1})
	mustSay(t, p.take(t, grade(1, 0, 0), api.OK))
	mustSay(t, p.take(t, grade(1, 2, 3), api.OK), [5]int{outbox.Back, 1, 2, 1, 1})
	p.mustBe(t, 1, rma.Settling, 988, 0, 988, 0)
	p.take(t, reply(3, true), api.OK)
	p.mustBe(t, 1, rma.Settling, 988, 0, 988, 0)
	p.take(t, reply(2, true), api.OK)
	p.mustBe(t, 1, rma.Closed, 988, 0, 988, 0)
	p.mustHaveSums(t, -988, 0, 0, 988, 0)
}

// What goes back is said ahead of what is shipped, and that ahead of what is paid.
func TestTheOrderOfWhatIsSaid(t *testing.T) {
	p := create(t, sample())
	p.docked(t, wanting(ask(0, 0, 1), 1))
	p.take(t, grade(1, 0, 0), api.OK)
	said := p.take(t, grade(1, 1, 3), api.OK)
	mustSay(t, said, [5]int{outbox.Back, 1, 1, 1, 1}, [5]int{outbox.Ship, 1, 10, 1, 1}, [5]int{outbox.Pay, 1, 88, 1, 1})
	for k, m := range said {
		if m.Key != k+2 {
			t.Error(said)
		}
	}
}

// What is wanted is shipped, if the worth isn't less than its price: one with a
// share just of it, one cent more, and one less.
func TestSettlingShips(t *testing.T) {
	for _, c := range []struct {
		price  int64
		credit bool
		said   [][5]int
		state  int
		sums   []int64
		place  int
	}{
		{987, false, [][5]int{{3, 1, 10, 1, 1}, {2, 1, 1, 1, 1}}, rma.Settling, []int64{988, 0, 0, 0}, 7},
		{988, false, [][5]int{{3, 1, 10, 1, 1}}, rma.Settling, []int64{988, 0, 0, 0}, 7},
		{989, false, [][5]int{{2, 1, 988, 1, 1}}, rma.Settling, []int64{988, 0, 0, 0}, 3},
		{987, true, [][5]int{{3, 1, 10, 1, 1}}, rma.Settling, []int64{988, 0, 1, 0}, 7},
		{988, true, [][5]int{{3, 1, 10, 1, 1}}, rma.Settling, []int64{988, 0, 0, 0}, 7},
		{989, true, nil, rma.Closed, []int64{988, 0, 988, 0}, 3},
		{0, true, [][5]int{{3, 1, 10, 1, 1}}, rma.Settling, []int64{988, 0, 988, 0}, 7},
		{1 << 30, false, [][5]int{{2, 1, 988, 1, 1}}, rma.Settling, []int64{988, 0, 0, 0}, 3},
	} {
		config := sample()
		config.Supplies[0].Price = c.price
		p := create(t, config)
		one := wanting(ask(0, 0), 1)
		one.Credit = c.credit
		_, said := p.settled(t, one, 0)
		mustSay(t, said, c.said...)
		p.mustBe(t, 1, c.state, c.sums...)
		p.mustBeAt(t, 10, c.place, 11, 3)
		if r := p.one(1); r.Reserved != map[int]int{3: -1, 7: 10}[c.place] {
			t.Error(r)
		}
		p.mustHold(t)
	}
}

// The worth of nothing is enough for what costs nothing.
func TestShippingForNothing(t *testing.T) {
	p := create(t, sample())
	_, said := p.settled(t, wanting(ask(0, 0), 6), 2)
	mustSay(t, said, [5]int{outbox.Ship, 1, 12, 1, 1})
	p.mustBe(t, 1, rma.Settling, 0, 0, 0, 0)
	c := p.clone()
	mustSay(t, p.take(t, reply(said[0].Key, true), api.OK))
	p.mustBe(t, 1, rma.Closed, 0, 0, 0, 0)
	p.mustBeAt(t, 12, 8)
	mustSay(t, c.take(t, reply(said[0].Key, false), api.OK))
	c.mustBe(t, 1, rma.Closed, 0, 0, 0, 0)
	c.mustBeAt(t, 12, 3)
}

// The exchange is only of what a return's own units are worth together.
func TestShippingForSeveral(t *testing.T) {
	p := create(t, sample())
	p.docked(t, wanting(ask(0, 3, 4), 1))
	p.take(t, grade(1, 3, 0), api.OK)
	said := p.take(t, grade(1, 4, 0), api.OK)
	mustSay(t, said, [5]int{outbox.Ship, 1, 10, 1, 1}, [5]int{outbox.Pay, 1, 87, 1, 1})
	p.docked(t, wanting(ask(0, 0, 1), 1))
	p.take(t, grade(2, 0, 1), api.OK)
	said = p.take(t, grade(2, 1, 2), api.OK)
	mustSay(t, said, [5]int{outbox.Pay, 2, 494, 1, 1})
	p.mustBeAt(t, 11, 3)
}
