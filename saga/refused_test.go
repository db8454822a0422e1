package saga_test

import (
	"math/rand"
	"testing"

	"recoup/api"
	"recoup/command"
	"recoup/ledger"
	"recoup/order"
	"recoup/outbox"
	"recoup/rma"
	"recoup/saga"
	"recoup/timer"
)

func TestANilSaga(t *testing.T) {
	var s *saga.Saga
	for _, c := range append(notFormed(), someCommands()...) {
		if v, l, e := s.Take(c); v != 0 || len(l) != 0 || e != api.ErrArg {
			t.Error(c, v, l, e)
		}
	}
	if s.Clone() != nil || s.Stock() != nil || s.Outbox() != nil || s.Timers() != nil || len(s.RMAs()) != 0 || len(s.Units()) != 0 || s.Now() != 0 || s.Ledger() != (ledger.Ledger{}) || !order.Equal(s.Config(), api.Config{}) {
		t.Error("a nil saga has something")
	}
	mustBeAlike(t, "a nil saga", s.Parts(), saga.Parts{})
}

// A saga that nobody made takes what one of no config takes, and doesn't panic.
func TestASagaThatNobodyMade(t *testing.T) {
	var s saga.Saga
	for range 2 {
		for _, c := range append(notFormed(), someCommands()...) {
			v, l, e := s.Take(c)
			isTick := c.Kind == command.Tick && c.Days >= 1 && c.Days <= 1000 && command.Formed(c)
			if v != 0 || len(l) != 0 || (e == api.OK) != isTick {
				t.Error(c, v, l, e)
			}
		}
		s.Stock().Len()
		s.Outbox().All()
		s.Timers().All()
		s.Clone().Take(tick(1))
		saga.Make(s.Parts())
		if len(s.RMAs()) != 0 || len(s.Units()) != 0 || len(s.Config().Orders) != 0 || s.Ledger() != (ledger.Ledger{}) {
			t.Error(s.Parts())
		}
	}
}

// What is refused changes nothing: each command there is, in each state.
func TestWhatIsRefusedChangesNothing(t *testing.T) {
	p := busy(t)
	refused := 0
	for _, c := range append(someCommands(), notFormed()...) {
		one := p.s.Clone()
		if _, _, e := one.Take(c); e != api.OK {
			refused++
			mustRefuse(t, p.s, c, e)
			p.check(t)
			mustHave(t, one, p.parts())
		}
	}
	if refused < 100 {
		t.Error(refused)
	}
}

// Of parts that don't fit a command is refused that would move a unit in a way that
// there isn't, ask for a price that isn't there, or post a sum that can't be.
func TestNoOtherWay(t *testing.T) {
	for _, c := range []struct {
		change func(p *saga.Parts)
		c      command.Command
		want   api.Errno
	}{
		{func(p *saga.Parts) { p.Places[0], p.RMAs[0].Reserved = 5, 0 }, cancel(1), api.ErrState},
		{func(p *saga.Parts) { p.Places[9] = 3 }, deny(1), api.ErrState},
		{func(p *saga.Parts) { p.Places[9] = 3 }, reply(1, false), api.ErrState},
		{func(p *saga.Parts) { p.Places[9] = 3 }, tick(13), api.ErrState},
		{func(p *saga.Parts) { p.Places[1] = 5 }, pick(2), api.ErrState},
		{func(p *saga.Parts) { p.Places[2] = 0 }, receive(3), api.ErrState},
		{func(p *saga.Parts) { p.Places[2] = 0 }, tick(29), api.ErrState},
		{func(p *saga.Parts) { p.RMAs[2].Grades[0] = 1 }, tick(29), api.ErrState},
		{func(p *saga.Parts) { p.Places[3] = 3 }, grade(4, 3, 0), api.ErrState},
		{func(p *saga.Parts) { p.Places[3] = 8 }, grade(4, 3, 3), api.ErrState},
		{func(p *saga.Parts) { p.Places[4] = 0 }, reply(5, true), api.ErrState},
		{func(p *saga.Parts) { p.Places[4] = 3 }, reply(5, false), api.ErrState},
		{func(p *saga.Parts) { p.Out[1].Value = 12 }, reply(5, true), api.ErrNone},
		{func(p *saga.Parts) { p.Out[1].Value = -1 }, reply(5, false), api.ErrNone},
		{func(p *saga.Parts) { p.Places[10] = 3 }, reply(7, true), api.ErrState},
		{func(p *saga.Parts) { p.Places[10] = 8 }, reply(7, false), api.ErrState},
		{func(p *saga.Parts) { p.Out[2].Value = 12 }, reply(7, true), api.ErrNone},
		{func(p *saga.Parts) { p.Out[2].Value = 0 }, reply(7, true), api.ErrState},
		{func(p *saga.Parts) { p.Out[2].Value = 0 }, reply(7, false), api.ErrState},
		{func(p *saga.Parts) { p.Places[0], p.Out[2].Value = 7, 0 }, reply(7, true), api.ErrNone},
		{func(p *saga.Parts) { p.Places[0], p.Out[2].Value = 7, 0 }, reply(7, false), api.ErrNone},
		{func(p *saga.Parts) { p.RMAs[3].Reserved = 0 }, grade(4, 3, 0), api.ErrNone},
		{func(p *saga.Parts) { p.Places[0], p.RMAs[3].Reserved = 7, 0 }, grade(4, 3, 2), api.ErrNone},
		{func(p *saga.Parts) { p.Out[3].Value = -1 }, reply(8, true), api.ErrArg},
		{func(p *saga.Parts) { p.Out[3].Value = smallest }, reply(8, false), api.ErrArg},
		{func(p *saga.Parts) { p.Out[3].Value = greatest }, reply(8, true), api.ErrMoney},
	} {
		parts := changed(t, c.change)
		mustRefuse(t, mustMake(t, parts), c.c, c.want)
	}
}

// Of two labels of one return, the second one's answer is none that there may be.
func TestASecondLabel(t *testing.T) {
	parts := changed(t, func(p *saga.Parts) {
		p.Out = append(p.Out, outbox.Message{Key: 10, Kind: outbox.Label, RMA: 1, Tries: 1, Due: 3})
	})
	s := mustMake(t, parts)
	if _, _, e := s.Take(reply(10, true)); e != api.OK || s.RMAs()[0].State != rma.Labelled {
		t.Error(e)
	}
	mustRefuse(t, s, reply(1, true), api.ErrState)
	s.Take(pick(1))
	mustRefuse(t, s, reply(1, false), api.ErrState)
	s = mustMake(t, parts)
	if _, _, e := s.Take(reply(10, false)); e != api.OK || s.RMAs()[0].State != rma.Expired {
		t.Error(e)
	}
	mustRefuse(t, s, reply(1, false), api.ErrOld)
}

// spoil changes one number of the parts, by little or to any.
func spoil(p *saga.Parts, r *rand.Rand) {
	var l []*int
	for k := range p.Places {
		l = append(l, &p.Places[k])
	}
	for k := range p.RMAs {
		one := &p.RMAs[k]
		l = append(l, &one.Order, &one.Reason, &one.Want, &one.Reserved, &one.State, &one.Day, &one.Units[0], &one.Grades[0])
	}
	for k := range p.Timers {
		l = append(l, &p.Timers[k].Day, &p.Timers[k].Number)
	}
	for k := range p.Out {
		l = append(l, &p.Out[k].Key, &p.Out[k].Kind, &p.Out[k].RMA, &p.Out[k].Tries, &p.Out[k].Due)
	}
	l = append(l, &p.Next, &p.Now)
	if r.Intn(2) == 0 {
		*l[r.Intn(len(l))] += r.Intn(13) - 6
	}
	wide := []*int64{&p.Ledger.Have[r.Intn(5)]}
	for k := range p.RMAs {
		wide = append(wide, &p.RMAs[k].Worth, &p.RMAs[k].Paid, &p.RMAs[k].Credited, &p.RMAs[k].Given)
	}
	for k := range p.Out {
		wide = append(wide, &p.Out[k].Value)
	}
	if r.Intn(2) == 0 {
		*wide[r.Intn(len(wide))] = []int64{-1, 0, 1, 5, richest - 10, richest, -richest, greatest, smallest, int64(r.Intn(12))}[r.Intn(10)]
	}
	if r.Intn(3) == 0 {
		p.Seen[r.Intn(len(p.Seen))][r.Intn(2)] = r.Intn(2) == 0
	}
}

// Whatever it is made of, no command panics; what is refused changes nothing; what
// is taken says messages that are kept, and keeps the total, and the units' number.
func TestSagasOfAnyParts(t *testing.T) {
	r := rand.New(rand.NewSource(3))
	first := busy(t)
	made, answers := 0, map[api.Errno]int{}
	for range 10000 {
		p := first.s.Parts()
		for range 1 + r.Intn(4) {
			spoil(&p, r)
		}
		s, e := saga.Make(p)
		if e != api.OK {
			if s != nil || e != api.ErrArg {
				t.Fatal(s, e)
			}
			continue
		}
		made++
		mustBeAlike(t, "Parts", s.Parts(), sorted(p))
		l := someCommands()
		for range 20 {
			answers[mustGoOn(t, s, l[r.Intn(len(l))])]++
		}
	}
	if made < 2000 || made > 8000 || answers[api.OK] < 5000 || answers[api.ErrMoney] < 10 {
		t.Error(made, answers)
	}
}

// sorted are parts whose timers are in their order.
func sorted(p saga.Parts) saga.Parts {
	var l timer.Timers
	for _, one := range p.Timers {
		l.Set(one.Number, one.Day)
	}
	p.Timers = l.All()
	return p
}

func mustGoOn(t *testing.T, s *saga.Saga, c command.Command) api.Errno {
	t.Helper()
	before := s.Parts()
	value, said, e := s.Take(c)
	after := s.Parts()
	if e != api.OK {
		if value != 0 || len(said) != 0 {
			t.Fatal(c, value, said, e)
		}
		mustBeAlike(t, "what was refused", after, before)
		return e
	}
	if ledger.Total(after.Ledger) != ledger.Total(before.Ledger) || len(after.Places) != len(before.Places) || (c.Kind == command.Request) != (value > 0) {
		t.Fatal(c, value, before, after)
	}
	for _, r := range after.RMAs {
		if !rma.Right(r) {
			t.Fatal(c, r)
		}
	}
	return e
}
