package saga_test

import (
	"slices"
	"testing"

	"recoup/api"
	"recoup/command"
	"recoup/rma"
)

func TestARequest(t *testing.T) {
	p := create(t, sample())
	p.take(t, tick(7), api.OK)
	c := wanting(because(ask(0, 0, 2, 4), 3), 1)
	v, said, e := p.do(t, c)
	if v != 1 || e != api.OK {
		t.Error(v, e)
	}
	mustSay(t, said, [5]int{1, 1, 0, 1, 8})
	want := rma.RMA{Number: 1, Order: 0, Reason: 3, Want: 1, Reserved: 10, State: rma.Open, Day: 7, Units: []int{0, 2, 4}, Grades: []int{-1, -1, -1}}
	if r := p.one(1); !rma.Equal(r, want) {
		t.Errorf("%+v", r)
	}
	p.mustBeAt(t, 0, 0, 2, 0, 4, 0, 10, 7, 11, 3)
	p.mustBeDue(t, 21, 1)
	p.mustHaveSums(t, 0, 0, 0, 0, 0)
	p.check(t)
}

// The value is the number; the second one has the next key.
func TestRequestsAreNumbered(t *testing.T) {
	p := create(t, sample())
	for k := range 5 {
		v, said, e := p.do(t, ask(0, k))
		if v != int64(k+1) || e != api.OK || said[0].Key != k+1 || said[0].RMA != k+1 {
			t.Error(k, v, said, e)
		}
	}
	p.check(t)
}

func TestManyReturns(t *testing.T) {
	p := create(t, sample())
	for k := range 100 {
		p.take(t, ask(0, 0), api.OK)
		if k < 99 {
			p.take(t, cancel(k+1), api.OK)
		}
	}
	for _, c := range []command.Command{ask(0, 1), ask(9, 1), ask(0, 2, 1), ask(0, 0), ask(0, 99), because(ask(0, 0), 9), wanting(ask(0, 1), 6), wanting(ask(0, 1), 2000)} {
		p.take(t, c, api.ErrMany)
	}
	p.take(t, cancel(100), api.OK)
	p.take(t, ask(0, 1), api.ErrMany)
}

func TestNoSuchOrder(t *testing.T) {
	p := create(t, sample())
	for _, n := range []int{3, 4, 19, 20, 255} {
		p.take(t, ask(n, 0), api.ErrNone)
		p.take(t, because(ask(n, 3, 2), 7), api.ErrNone)
	}
	create(t, api.Config{}).take(t, ask(0, 0), api.ErrNone)
	p.take(t, ask(2, 9), api.ErrWindow)
}

func TestWrongRequests(t *testing.T) {
	p := create(t, sample())
	p.take(t, ask(0, 1), api.OK)
	for _, c := range []command.Command{
		ask(0, 2, 0), ask(0, 2, 2), ask(0, 0, 2, 2), ask(0, 0, 3, 2), ask(0, 2, 0, 3),
		ask(0, 5), ask(0, 0, 5), ask(1, 4), ask(1, 4, 7), ask(1, 8, 9), ask(0, 10), ask(1, 13), ask(0, 14), ask(0, 200), ask(0, 255), ask(2, 0, 9),
		because(ask(0, 0), 4), because(ask(0, 0), 255), wanting(ask(0, 0), 1001), wanting(ask(0, 0), 65535),
		because(ask(0, 1), 4), wanting(ask(0, 1), 1001), because(ask(1, 5), 4), wanting(ask(1, 5), 1001), ask(0, 1, 5), ask(0, 1, 0),
	} {
		p.take(t, c, api.ErrArg)
	}
	p.take(t, because(ask(0, 0), 3), api.OK)
	p.take(t, wanting(ask(0, 2), 1000), api.ErrStock)
}

// A request may have no more units than a command may, and all of an order's.
func TestManyUnits(t *testing.T) {
	c := api.Config{Table: sample().Table, Orders: []api.Order{{Lines: []api.Line{{SKU: 1, Price: 10, Count: 50}, {SKU: 2, Price: 20, Count: 10}}}}}
	p := create(t, c)
	l := make([]int, 60)
	for k := range l {
		l[k] = k
	}
	p.settled(t, ask(0, l...), 0)
	p.mustBe(t, 1, rma.Settling, 700, 0, 0, 0)
	p.take(t, ask(0, append(l, 60)...), api.ErrArg)
}

func TestTaken(t *testing.T) {
	p := create(t, sample())
	p.take(t, ask(0, 1, 3), api.OK)
	for _, c := range []command.Command{ask(0, 1), ask(0, 3), ask(0, 0, 1), ask(0, 2, 3, 4), wanting(ask(0, 1), 2), wanting(ask(0, 3), 1)} {
		p.take(t, c, api.ErrTaken)
	}
	p.take(t, ask(0, 0, 2, 4), api.OK)
	p.take(t, ask(0, 4), api.ErrTaken)
	p.take(t, deny(1), api.OK)
	p.take(t, ask(0, 1), api.OK)
	p.take(t, ask(0, 3), api.OK)
	p.take(t, ask(0, 2), api.ErrTaken)
}

// Wherever a unit is but with the customer, it is taken, be its return done or
// not; and with the customer, too, as long as its return isn't done.
func TestTakenWhereverItIs(t *testing.T) {
	p := create(t, sample())
	c := ask(0, 0, 1)
	mustBeTaken := func() {
		t.Helper()
		p.take(t, ask(0, 0), api.ErrTaken)
		p.take(t, ask(0, 1), api.ErrTaken)
	}
	p.labelled(t, c)
	mustBeTaken()
	p.take(t, pick(1), api.OK)
	mustBeTaken()
	p.take(t, receive(1), api.OK)
	mustBeTaken()
	said := p.take(t, grade(1, 0, 3), api.OK)
	mustBeTaken()
	p.take(t, reply(said[0].Key, true), api.OK)
	p.mustBeAt(t, 0, 0, 1, 2)
	mustBeTaken()
	said = p.take(t, grade(1, 1, 0), api.OK)
	mustBeTaken()
	p.take(t, reply(said[0].Key, true), api.OK)
	p.mustBe(t, 1, rma.Closed)
	p.take(t, ask(0, 1), api.ErrTaken)
	p.take(t, ask(0, 0), api.OK)
	p.take(t, ask(0, 0), api.ErrTaken)
}

// What is lost, scrapped or sent away is taken.
func TestTakenForEver(t *testing.T) {
	p := create(t, sample())
	for g := range 3 {
		number, said := p.settled(t, ask(0, g), g)
		for _, m := range said {
			p.take(t, reply(m.Key, true), api.OK)
		}
		p.mustBe(t, number, rma.Closed)
		p.take(t, ask(0, g), api.ErrTaken)
	}
	number, said := p.settled(t, ask(0, 3), 3)
	p.take(t, ask(0, 3), api.ErrTaken)
	p.take(t, reply(said[0].Key, false), api.OK)
	p.mustBe(t, number, rma.Closed)
	p.mustBeAt(t, 0, 3, 1, 4, 2, 5, 3, 6)
	p.take(t, ask(0, 3), api.ErrTaken)
}

func TestMayOfEachUnit(t *testing.T) {
	p := create(t, sample())
	p.take(t, ask(1, 5), api.ErrFinal)
	p.take(t, ask(1, 6), api.ErrFinal)
	p.take(t, ask(1, 7), api.ErrWindow)
	p.take(t, wanting(ask(1, 5), 6), api.ErrFinal)
	p.take(t, wanting(ask(1, 6), 6), api.ErrWindow)
	p.take(t, ask(2, 9), api.ErrWindow)
	p.take(t, tick(5), api.OK)
	p.take(t, wanting(ask(1, 5), 6), api.ErrFinal)
	p.take(t, ask(1, 6), api.ErrFinal)
	c := p.clone()
	c.take(t, wanting(ask(1, 6), 6), api.OK)
	c.take(t, ask(1, 7), api.OK)
	p.take(t, tick(10), api.OK)
	c = p.clone()
	c.take(t, wanting(ask(1, 6), 6), api.OK)
	p.take(t, tick(1), api.OK)
	p.take(t, wanting(ask(1, 6), 6), api.ErrWindow)
	p.take(t, ask(1, 8), api.OK)
	p.take(t, tick(9), api.OK)
	p.take(t, ask(1, 7), api.OK)
	p.take(t, tick(5), api.OK)
	p.take(t, ask(0, 0), api.OK)
	p.take(t, tick(1), api.OK)
	p.take(t, ask(0, 1), api.ErrWindow)
	p.take(t, ask(2, 9), api.ErrWindow)
	p.take(t, tick(9), api.OK)
	p.take(t, ask(2, 9), api.OK)
}

// The first unit is asked all, then the next one.
func TestTheFirstUnitIsAskedFirst(t *testing.T) {
	p := create(t, sample())
	p.take(t, tick(20), api.OK)
	p.take(t, ask(1, 8), api.OK)
	for _, c := range []struct {
		units []int
		want  api.Errno
	}{{[]int{5, 8}, api.ErrFinal}, {[]int{7, 8}, api.ErrTaken}, {[]int{5, 7, 8}, api.ErrFinal}, {[]int{6, 8}, api.ErrFinal}, {[]int{6, 7}, api.ErrFinal}, {[]int{7}, api.OK}} {
		p.clone().take(t, ask(1, c.units...), c.want)
	}
	wants := wanting(ask(1, 6, 8), 6)
	p.take(t, wants, api.ErrWindow)
	wants.Units = []int{7, 8}
	p.take(t, wants, api.ErrTaken)
	// Stock is asked last.
	p.take(t, wanting(ask(1, 7, 8), 2), api.ErrTaken)
	p.take(t, wanting(ask(1, 5), 2), api.ErrFinal)
	p.take(t, wanting(ask(1, 6), 2), api.ErrWindow)
	p.take(t, wanting(ask(1, 7), 2), api.ErrStock)
}

func TestReserving(t *testing.T) {
	p := create(t, sample())
	p.take(t, wanting(ask(0, 0), 1), api.OK)
	p.take(t, wanting(ask(0, 1), 1), api.OK)
	p.take(t, wanting(ask(0, 2), 1), api.ErrStock)
	p.take(t, wanting(ask(0, 2), 6), api.OK)
	p.take(t, wanting(ask(0, 3), 6), api.ErrStock)
	p.take(t, wanting(ask(0, 3), 3), api.ErrStock)
	p.take(t, wanting(ask(0, 3), 999), api.ErrStock)
	p.take(t, wanting(ask(0, 3), 7), api.OK)
	var got []int
	for _, r := range p.s.RMAs() {
		got = append(got, r.Want, r.Reserved)
	}
	if !slices.Equal(got, []int{1, 10, 1, 11, 6, 12, 7, 13}) {
		t.Error(got)
	}
	p.mustBeAt(t, 10, 7, 11, 7, 12, 7, 13, 7)
	p.take(t, cancel(1), api.OK)
	p.take(t, wanting(ask(0, 0), 1), api.OK)
	if r := p.one(5); r.Reserved != 10 {
		t.Error(r)
	}
}

// One that came back to the shelf is reserved again, if its SKU is for sale; else
// it isn't.
func TestReservingWhatCameBack(t *testing.T) {
	p := create(t, sample())
	_, said := p.settled(t, ask(0, 2, 3), 0)
	p.take(t, reply(said[0].Key, true), api.OK)
	p.mustBeAt(t, 2, 3, 3, 3)
	p.take(t, wanting(ask(0, 0), 2), api.ErrStock)
	p.take(t, wanting(ask(0, 0), 1), api.OK)
	if r := p.one(2); r.Reserved != 2 {
		t.Error(r)
	}
	p.mustBeAt(t, 2, 7, 10, 3)
	p.take(t, reply(p.out[0].Key, true), api.OK)
	p.take(t, pick(2), api.OK)
	p.take(t, receive(2), api.OK)
	said = p.take(t, grade(2, 0, 0), api.OK)
	mustSay(t, said, [5]int{3, 2, 2, 1, 1}, [5]int{2, 2, 88, 1, 1})
	p.take(t, reply(said[0].Key, true), api.OK)
	p.mustBeAt(t, 2, 8)
	p.take(t, ask(0, 2), api.ErrTaken)
}

// A unit may be kept for another return while its own one isn't done.
func TestReservingOutOfAReturn(t *testing.T) {
	p := create(t, sample())
	p.docked(t, ask(0, 0, 1))
	p.take(t, grade(1, 0, 0), api.OK)
	p.take(t, wanting(ask(0, 2), 1), api.OK)
	if r := p.one(2); r.Reserved != 0 {
		t.Error(r)
	}
	p.mustBeAt(t, 0, 7, 1, 2)
	p.take(t, grade(1, 1, 0), api.OK)
	p.take(t, cancel(2), api.OK)
	p.mustBeAt(t, 0, 3, 1, 3)
}

func TestCreditOfARequest(t *testing.T) {
	mixed := sample()
	mixed.Orders[0].Lines[1].Category = coupons
	for _, c := range []struct {
		c    api.Config
		ask  command.Command
		want bool
	}{
		{sample(), ask(0, 0), false}, {sample(), byCredit(ask(0, 0)), true}, {sample(), ask(0, 0, 4), false},
		{mixed, ask(0, 0, 1), false}, {mixed, ask(0, 3), true}, {mixed, ask(0, 0, 3), true}, {mixed, ask(0, 0, 1, 2, 3, 4), true}, {mixed, byCredit(ask(0, 0, 4)), true},
	} {
		p := create(t, c.c)
		p.take(t, c.ask, api.OK)
		if r := p.one(1); r.Credit != c.want {
			t.Error(c.ask, r)
		}
	}
}

// The day on which a label is due follows the greatest day.
func TestARequestOnTheLastDay(t *testing.T) {
	c := sample()
	c.Orders[2].Day = 100000
	p := create(t, c)
	for range 100 {
		p.take(t, tick(1000), api.OK)
	}
	said := p.take(t, ask(2, 9), api.OK)
	mustSay(t, said, [5]int{1, 1, 0, 1, 100001})
	p.mustBeDue(t, 100014, 1)
	p.made(t).check(t)
	p.take(t, reply(1, true), api.OK)
	p.take(t, pick(1), api.OK)
	p.mustBeDue(t, 100030, 1)
	p.take(t, tick(1), api.ErrRange)
	p.take(t, tick(1000), api.ErrRange)
	p.take(t, tick(0), api.ErrArg)
	p.take(t, tick(1001), api.ErrArg)
}
