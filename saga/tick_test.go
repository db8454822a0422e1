package saga_test

import (
	"slices"
	"testing"

	"recoup/api"
	"recoup/outbox"
	"recoup/rma"
	"recoup/saga"
	"recoup/timer"
)

func TestTicks(t *testing.T) {
	p := create(t, sample())
	for _, days := range []int{0, 1001, 1002, 65535} {
		p.take(t, tick(days), api.ErrArg)
	}
	for _, days := range []int{1, 2, 999, 1000, 300} {
		before := p.s.Now()
		if said := p.take(t, tick(days), api.OK); len(said) != 0 || p.s.Now() != before+days {
			t.Error(days, said, p.s.Now())
		}
	}
}

func TestTheLastDay(t *testing.T) {
	parts := create(t, sample()).s.Parts()
	for _, c := range []struct {
		now, days int
		want      api.Errno
	}{
		{99999, 1, api.OK}, {99999, 2, api.ErrRange}, {99999, 1000, api.ErrRange}, {99000, 1000, api.OK}, {99001, 1000, api.ErrRange},
		{100000, 1, api.ErrRange}, {100000, 1001, api.ErrArg}, {100000, 0, api.ErrArg}, {99000, 1001, api.ErrArg},
	} {
		parts.Now = c.now
		s := mustMake(t, parts)
		if c.want != api.OK {
			mustRefuse(t, s, tick(c.days), c.want)
		} else if _, _, e := s.Take(tick(c.days)); e != api.OK || s.Now() != 100000 {
			t.Error(c, s.Now(), e)
		}
	}
}

// An open return and a labelled one expire on the day that is LabelDays behind
// the one on which they were asked for, whenever they got their labels.
func TestExpiring(t *testing.T) {
	for _, labelled := range []bool{false, true} {
		p := create(t, sample())
		p.take(t, tick(3), api.OK)
		p.take(t, wanting(ask(0, 0), 1), api.OK)
		p.take(t, tick(2), api.OK)
		p.take(t, ask(0, 1), api.OK)
		if labelled {
			p.take(t, tick(6), api.OK)
			p.take(t, reply(1, true), api.OK)
			p.take(t, tick(5), api.OK)
		} else {
			p.take(t, tick(11), api.OK)
		}
		p.mustBeDue(t, 17, 1, 19, 2)
		p.mustBeAt(t, 10, 7)
		said := p.take(t, tick(1), api.OK)
		p.mustBe(t, 1, rma.Expired, 0, 0, 0, 0)
		p.mustBe(t, 2, rma.Open)
		p.mustBeAt(t, 0, 0, 10, 3)
		p.mustBeDue(t, 19, 2)
		for _, m := range append(said, p.s.Outbox().All()...) {
			if m.RMA == 1 {
				t.Error(m)
			}
		}
		if r := p.one(1); r.Reserved != -1 {
			t.Error(r)
		}
		p.take(t, ask(0, 0), api.OK)
		p.mustHold(t)
	}
}

// On the same day the label would be said again: it is dropped, and isn't.
func TestAnExpiredLabelIsNotSaid(t *testing.T) {
	p := create(t, sample())
	p.take(t, ask(0, 0), api.OK)
	p.take(t, ask(0, 1), api.OK)
	p.take(t, reply(2, true), api.OK)
	mustSay(t, p.take(t, tick(13), api.OK), [5]int{1, 1, 0, 2, 15})
	p.take(t, ask(0, 2), api.OK)
	mustSay(t, p.take(t, tick(2), api.OK), [5]int{1, 3, 0, 2, 17})
	p.mustBe(t, 1, rma.Expired)
	p.mustBe(t, 2, rma.Expired)
	p.mustBe(t, 3, rma.Open)
}

// What was lost is worth what was paid for it, whatever the reason; the claim is
// due ClaimDays behind the day on which it was picked up.
func TestLosing(t *testing.T) {
	p := create(t, sample())
	p.labelled(t, because(ask(0, 0, 2, 4), 3))
	p.take(t, tick(9), api.OK)
	p.take(t, pick(1), api.OK)
	p.take(t, tick(29), api.OK)
	p.mustBe(t, 1, rma.Moving, 0, 0, 0, 0)
	said := p.take(t, tick(1), api.OK)
	mustSay(t, said, [5]int{outbox.Pay, 1, 988 + 987 + 494, 1, 40})
	p.mustBe(t, 1, rma.Settling, 2469, 0, 0, 0)
	if r := p.one(1); !slices.Equal(r.Grades, []int{4, 4, 4}) {
		t.Error(r)
	}
	p.mustBeAt(t, 0, 6, 1, 0, 2, 6, 3, 0, 4, 6)
	p.mustBeDue(t)
	p.mustHaveSums(t, -2469, 2469, 0, 0, 0)
	if received, graded := p.s.Stock().Seen(0); received || graded {
		t.Error(received, graded)
	}
}

func TestLosingSettles(t *testing.T) {
	p := create(t, sample())
	p.moving(t, wanting(ask(0, 0), 1))
	p.moving(t, byCredit(ask(0, 1)))
	p.moving(t, wanting(byCredit(ask(0, 3)), 1))
	p.docked(t, ask(0, 2))
	said := p.take(t, tick(31), api.OK)
	mustSay(t, said, [5]int{outbox.Ship, 1, 10, 1, 32}, [5]int{outbox.Pay, 1, 88, 1, 32})
	p.mustBe(t, 1, rma.Settling, 988, 0, 0, 0)
	p.mustBe(t, 2, rma.Closed, 988, 0, 988, 0)
	p.mustBe(t, 3, rma.Closed, 493, 0, 493, 0)
	p.mustBe(t, 4, rma.Docked, 0, 0, 0, 0)
	p.mustBeAt(t, 0, 6, 1, 6, 2, 2, 3, 6, 10, 7, 11, 3)
	p.mustHaveSums(t, -2469, 988, 0, 1481, 0)
	p.mustHold(t)
}

// Timers are due by their days, those of the same day by their numbers: so are
// the keys of what is put, whichever was picked up first.
func TestTheOrderOfWhatIsDue(t *testing.T) {
	p := create(t, sample())
	for unit := range 4 {
		p.labelled(t, ask(0, unit))
	}
	p.take(t, pick(4), api.OK)
	p.take(t, pick(2), api.OK)
	p.take(t, tick(1), api.OK)
	p.take(t, pick(1), api.OK)
	said := p.take(t, tick(500), api.OK)
	var got []int
	for _, m := range said {
		got = append(got, m.RMA, m.Key)
	}
	if !slices.Equal(got, []int{2, 5, 4, 6, 1, 7}) {
		t.Error(got)
	}
	p.mustBe(t, 3, rma.Expired)
	mustSay(t, said, [5]int{2, 2, 988, 1, 502}, [5]int{2, 4, 493, 1, 502}, [5]int{2, 1, 988, 1, 502})
}

// What is put is said first, though its keys are greater, then what is said again.
func TestWhatIsSaidAgain(t *testing.T) {
	p := create(t, sample())
	p.settled(t, ask(0, 0), 3)
	p.moving(t, ask(0, 1))
	p.take(t, tick(29), api.OK)
	p.take(t, ask(0, 2), api.OK)
	said := p.take(t, tick(1), api.OK)
	mustSay(t, said, [5]int{2, 2, 988, 1, 31}, [5]int{1, 3, 0, 2, 32})
	said = p.take(t, tick(1), api.OK)
	mustSay(t, said, [5]int{4, 1, 0, 3, 35}, [5]int{2, 2, 988, 2, 33})
	// They go on for ever, but the label.
	for range 100 {
		p.take(t, tick(8), api.OK)
	}
	said = p.take(t, tick(1000), api.OK)
	mustSay(t, said, [5]int{4, 1, 0, 104, 1839}, [5]int{2, 2, 988, 103, 1839})
	p.mustBe(t, 3, rma.Expired)
}

// A label says its 1, 2 and 4 days, then its return's time is over.
func TestALabelIsSaidAgain(t *testing.T) {
	p := create(t, sample())
	p.take(t, ask(0, 0), api.OK)
	var days []int
	for p.one(1).State == rma.Open {
		for range p.take(t, tick(1), api.OK) {
			days = append(days, p.s.Now())
		}
	}
	if !slices.Equal(days, []int{1, 3, 7}) || p.s.Now() != 14 {
		t.Error(days, p.s.Now())
	}
	p.mustBe(t, 1, rma.Expired)
}

// stale are the parts of a saga of an open return 1, with a unit reserved, whose
// label was said so many times and is due on day 3, without a timer.
func stale(t *testing.T, tries int) saga.Parts {
	p := create(t, sample())
	p.take(t, wanting(ask(0, 0), 1), api.OK)
	parts := p.s.Parts()
	parts.Timers = nil
	parts.Out[0].Tries, parts.Out[0].Due = tries, 3
	return parts
}

// A label that is given up is a return that expires, ahead of its time.
func TestGivingUp(t *testing.T) {
	for _, timed := range []bool{false, true} {
		parts := stale(t, 5)
		if timed {
			parts.Timers = []timer.Timer{{Day: 4, Number: 1}}
		}
		s := mustMake(t, parts)
		s.Take(tick(2))
		if r := s.RMAs()[0]; r.State != rma.Open {
			t.Error(r)
		}
		if _, l, e := s.Take(tick(1)); len(l) != 0 || e != api.OK {
			t.Error(l, e)
		}
		if r := s.RMAs()[0]; r.State != rma.Expired || r.Reserved != -1 {
			t.Error(r)
		}
		if s.Stock().Place(10) != 3 || s.Stock().Place(0) != 0 || s.Timers().Len() != 0 || len(s.Outbox().All()) != 0 {
			t.Error(s.Parts())
		}
	}
	s := mustMake(t, stale(t, 4))
	_, l, _ := s.Take(tick(3))
	mustSay(t, l, [5]int{1, 1, 0, 5, 11})
	s.Take(tick(7))
	if r := s.RMAs()[0]; r.State != rma.Open {
		t.Error(r)
	}
	s.Take(tick(1))
	if r := s.RMAs()[0]; r.State != rma.Expired {
		t.Error(r)
	}
}

// Of two labels of one return both may be given up at once.
func TestGivingUpTwice(t *testing.T) {
	parts := stale(t, 5)
	again := parts.Out[0]
	again.Key = 2
	parts.Out, parts.Next = append(parts.Out, again), 3
	s := mustMake(t, parts)
	if _, l, e := s.Take(tick(3)); len(l) != 0 || e != api.OK || s.RMAs()[0].State != rma.Expired || len(s.Outbox().All()) != 0 {
		t.Error(l, e, s.Parts())
	}
	// The second one is given up while the return is on its way: that goes on.
	s = mustMake(t, parts)
	s.Take(reply(1, true))
	s.Take(pick(1))
	if _, l, e := s.Take(tick(3)); len(l) != 0 || e != api.OK || s.RMAs()[0].State != rma.Moving || len(s.Outbox().All()) != 0 || s.Stock().Place(10) != 7 {
		t.Error(l, e, s.Parts())
	}
}

// A timer of a return that isn't open, labelled or moving does nothing.
func TestTimersOfOthers(t *testing.T) {
	for state := rma.Docked; state <= rma.Cancelled; state++ {
		p := create(t, sample())
		p.toState(t, state)
		parts := p.s.Parts()
		parts.Timers = []timer.Timer{{Day: 0, Number: 1}}
		s := mustMake(t, parts)
		p.do(t, tick(1))
		if _, _, e := s.Take(tick(1)); e != api.OK {
			t.Error(state, e)
		}
		mustHave(t, s, p.parts())
	}
}

// What is due long since is due, as is what is due on the very day.
func TestTimersOfAnyDay(t *testing.T) {
	p := create(t, sample())
	p.take(t, ask(0, 0), api.OK)
	parts := p.s.Parts()
	for _, day := range []int{0, 1, 4, 5, 6, 100000, greatest} {
		parts.Timers[0].Day = day
		s := mustMake(t, parts)
		s.Take(tick(5))
		if got := s.RMAs()[0].State; (got == rma.Expired) != (day <= 5) {
			t.Error(day, got)
		}
	}
}
