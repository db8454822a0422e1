package saga_test

import (
	"slices"
	"testing"

	"recoup/api"
	"recoup/outbox"
	"recoup/rma"
	"recoup/saga"
	"recoup/timer"
)

// busy is a saga with returns in many states: 1 is open, and has a unit reserved;
// 2 labelled; 3 moving; 4 docked, with one of two units graded, and sent back; 5
// settling, with a Ship and a Pay; 6 closed; 7 cancelled.
func busy(t *testing.T) pair {
	t.Helper()
	p := create(t, busyConfig())
	p.take(t, tick(2), api.OK)
	p.take(t, wanting(ask(0, 0), 2), api.OK)
	p.labelled(t, ask(0, 1))
	p.moving(t, ask(0, 2))
	p.docked(t, ask(0, 3, 4))
	p.take(t, grade(4, 4, 3), api.OK)
	p.settled(t, wanting(ask(0, 5), 2), 0)
	p.settled(t, byCredit(ask(0, 6)), 1)
	p.take(t, ask(0, 7), api.OK)
	p.take(t, cancel(7), api.OK)
	p.take(t, tick(1), api.OK)
	for k, r := range p.s.RMAs() {
		p.mustBe(t, r.Number, []int{1, 2, 3, 4, 5, 6, 9}[k])
	}
	return p
}

// busyConfig has 8 units of an order, one of another one, and 3 for sale.
func busyConfig() api.Config {
	c := sample()
	c.Orders = []api.Order{
		{Lines: []api.Line{{SKU: 1, Category: books, Price: 1000, Count: 8}}},
		{Day: 1, Lines: []api.Line{{SKU: 3, Category: books, Price: 7, Count: 1}}},
	}
	c.Supplies = []api.Supply{{SKU: 2, Price: 900, Count: 3}}
	return c
}

func TestPartsAreAllThatThereIs(t *testing.T) {
	p := busy(t)
	parts := p.s.Parts()
	if !slices.Equal(parts.Places, []int{0, 0, 1, 2, 8, 3, 4, 0, 0, 7, 7, 3}) {
		t.Error(parts.Places)
	}
	for unit, seen := range parts.Seen {
		if want := map[int][2]bool{3: {true, false}, 4: {true, true}, 5: {true, true}, 6: {true, true}}[unit]; seen != want {
			t.Error(unit, seen)
		}
	}
	if !slices.Equal(parts.Timers, []timer.Timer{{Day: 16, Number: 1}, {Day: 16, Number: 2}, {Day: 32, Number: 3}}) {
		t.Error(parts.Timers)
	}
	mustSay(t, parts.Out, [5]int{outbox.Label, 1, 0, 2, 5}, [5]int{outbox.Back, 4, 4, 2, 5}, [5]int{outbox.Ship, 5, 10, 2, 5}, [5]int{outbox.Pay, 5, 100, 2, 5})
	if parts.Next != 11 || parts.Now != 3 || parts.Ledger.Have != [5]int64{-1500, 1000, 0, 500, 0} || len(parts.RMAs) != 7 {
		t.Errorf("%+v", parts)
	}
	mustHave(t, p.s, parts)
	mustHave(t, mustMake(t, parts), parts)
}

// What is made goes on as the other one does: each of the commands that there are.
func TestWhatIsMadeGoesOn(t *testing.T) {
	p := busy(t)
	for _, c := range someCommands() {
		one, other := p.clone(), p.made(t)
		one.do(t, c)
		one.check(t)
		other.do(t, c)
		other.check(t)
		other.made(t).check(t)
	}
}

// changed are busy's parts, with a change.
func changed(t *testing.T, change func(p *saga.Parts)) saga.Parts {
	t.Helper()
	p := busy(t).s.Parts()
	change(&p)
	return p
}

func TestPartsThatMayBe(t *testing.T) {
	for _, change := range []func(p *saga.Parts){
		func(p *saga.Parts) {},
		func(p *saga.Parts) { p.Now = 0 },
		func(p *saga.Parts) { p.Now = 100000 },
		func(p *saga.Parts) { p.Ledger.Have = [5]int64{richest, -richest, richest, 0, 5} },
		func(p *saga.Parts) { p.RMAs, p.Timers, p.Out, p.Next = nil, nil, nil, 1 },
		func(p *saga.Parts) { p.RMAs[1].Order = 1 },
		func(p *saga.Parts) { p.RMAs[1].Units[0] = 11 },
		func(p *saga.Parts) { p.RMAs[3].Units = []int{0, 11} },
		func(p *saga.Parts) { p.RMAs[3].Units[0] = 0 },
		func(p *saga.Parts) { p.RMAs[0].Reserved = 11 },
		func(p *saga.Parts) { p.RMAs[0].Reserved = 0 },
		func(p *saga.Parts) { p.RMAs[0].Reserved = -1 },
		func(p *saga.Parts) { p.RMAs[0].Want, p.RMAs[1].Want = 0, 1000 },
		func(p *saga.Parts) { p.RMAs[4].Worth, p.RMAs[4].Paid = 0, richest },
		func(p *saga.Parts) { p.RMAs[1].State, p.RMAs[6].State = 9, 1 },
		func(p *saga.Parts) { p.RMAs[2].Day = 100000 },
		func(p *saga.Parts) { p.Timers = nil },
		func(p *saga.Parts) { p.Timers[0].Day = 0 },
		func(p *saga.Parts) { p.Timers[2].Day = greatest },
		func(p *saga.Parts) { p.Timers[2].Number = 7 },
		func(p *saga.Parts) {
			p.Timers = append(p.Timers, timer.Timer{Day: 99, Number: 4}, timer.Timer{Day: 99, Number: 7})
		},
		func(p *saga.Parts) { p.Next = 1 << 40 },
		func(p *saga.Parts) { p.Next = greatest },
		func(p *saga.Parts) { p.Out[0].Tries, p.Out[0].Due = greatest, smallest },
		func(p *saga.Parts) { p.Out[1].RMA, p.Out[2].RMA, p.Out[3].RMA = 1, 7, 3 },
		func(p *saga.Parts) { p.Out[1].Value, p.Out[2].Value, p.Out[3].Value = smallest, greatest, -1 },
		func(p *saga.Parts) { p.Out = append(p.Out, outbox.Message{Key: 10, Kind: 1, RMA: 1, Tries: 1}) },
	} {
		p := changed(t, change)
		mustHave(t, mustMake(t, p), p)
	}
}

// Timers may come in any order.
func TestTimersInAnyOrder(t *testing.T) {
	p := changed(t, func(p *saga.Parts) { slices.Reverse(p.Timers) })
	s, e := saga.Make(p)
	if e != api.OK {
		t.Fatal(e)
	}
	mustHave(t, s, busy(t).s.Parts())
}

func TestPartsThatMayNotBe(t *testing.T) {
	for _, change := range []func(p *saga.Parts){
		func(p *saga.Parts) { p.Config.Supplies[0].SKU = 0 },
		func(p *saga.Parts) { p.Config.Orders[0].Day = -1 },
		func(p *saga.Parts) { p.Config.Orders = nil },
		func(p *saga.Parts) { p.Config.Orders = p.Config.Orders[:1] },
		func(p *saga.Parts) { p.Config = api.Config{} },
		func(p *saga.Parts) { p.Config.Supplies[0].Count = 2 },
		func(p *saga.Parts) { p.Config.Supplies[0].Count = 4 },
		func(p *saga.Parts) { p.Places = p.Places[:11] },
		func(p *saga.Parts) { p.Places = append(p.Places, 0) },
		func(p *saga.Parts) { p.Places = nil },
		func(p *saga.Parts) { p.Seen = p.Seen[:11] },
		func(p *saga.Parts) { p.Seen = append(p.Seen, [2]bool{}) },
		func(p *saga.Parts) { p.Seen = nil },
		func(p *saga.Parts) { p.Places, p.Seen = p.Places[:11], p.Seen[:11] },
		func(p *saga.Parts) { p.Places, p.Seen = append(p.Places, 0), append(p.Seen, [2]bool{}) },
		func(p *saga.Parts) { p.Places, p.Seen = nil, nil },
		func(p *saga.Parts) { p.Seen[0] = [2]bool{false, true} },
		func(p *saga.Parts) { p.Seen[11] = [2]bool{false, true} },
		func(p *saga.Parts) { p.Seen[4] = [2]bool{false, true} },
		func(p *saga.Parts) { p.RMAs[0].Number = 2 },
		func(p *saga.Parts) { p.RMAs[6].Number = 8 },
		func(p *saga.Parts) { p.RMAs[6].Number = 6 },
		func(p *saga.Parts) { p.RMAs[0], p.RMAs[1] = p.RMAs[1], p.RMAs[0] },
		func(p *saga.Parts) { p.RMAs = p.RMAs[1:] },
		func(p *saga.Parts) { p.RMAs = p.RMAs[:2] },
		func(p *saga.Parts) { p.RMAs = p.RMAs[:4] },
		func(p *saga.Parts) { p.RMAs = nil },
		func(p *saga.Parts) { p.RMAs = append(p.RMAs, rma.RMA{}) },
		func(p *saga.Parts) { p.RMAs[6].Order = 2 },
		func(p *saga.Parts) { p.RMAs[0].Order = 19 },
		func(p *saga.Parts) { p.RMAs[0].Order = -1 },
		func(p *saga.Parts) { p.RMAs[6].Units[0] = 12 },
		func(p *saga.Parts) { p.RMAs[0].Units[0] = 199 },
		func(p *saga.Parts) { p.RMAs[3].Units[1] = 12 },
		func(p *saga.Parts) { p.RMAs[3].Units[1] = 3 },
		func(p *saga.Parts) { p.RMAs[3].Units[0] = -1 },
		func(p *saga.Parts) { p.RMAs[6].Reserved = 12 },
		func(p *saga.Parts) { p.RMAs[0].Reserved = 199 },
		func(p *saga.Parts) { p.RMAs[0].Reserved = -2 },
		func(p *saga.Parts) { p.RMAs[2].Units = nil },
		func(p *saga.Parts) { p.RMAs[2].Grades = nil },
		func(p *saga.Parts) { p.RMAs[2].Grades[0] = 5 },
		func(p *saga.Parts) { p.RMAs[2].Reason = 4 },
		func(p *saga.Parts) { p.RMAs[2].Want = 1001 },
		func(p *saga.Parts) { p.RMAs[2].State = 0 },
		func(p *saga.Parts) { p.RMAs[2].State = 10 },
		func(p *saga.Parts) { p.RMAs[2].Day = 100001 },
		func(p *saga.Parts) { p.RMAs[2].Worth = richest + 1 },
		func(p *saga.Parts) { p.RMAs[6].Given = -1 },
		func(p *saga.Parts) { p.Timers[0].Number = 0 },
		func(p *saga.Parts) { p.Timers[2].Number = 8 },
		func(p *saga.Parts) { p.Timers[1].Number = -1 },
		func(p *saga.Parts) { p.Timers[1].Number = 1<<32 + 4 },
		func(p *saga.Parts) { p.Timers[1].Number = 1 },
		func(p *saga.Parts) { p.Timers[2].Number = 1 },
		func(p *saga.Parts) { p.Timers = append(p.Timers, p.Timers[2]) },
		func(p *saga.Parts) { p.Timers[0].Day = -1 },
		func(p *saga.Parts) { p.Timers[2].Day = smallest },
		func(p *saga.Parts) { p.Next = 0 },
		func(p *saga.Parts) { p.Next = -11 },
		func(p *saga.Parts) { p.Next = p.Out[3].Key },
		func(p *saga.Parts) { p.Out[0].Key = 0 },
		func(p *saga.Parts) { p.Out[1].Key = p.Out[0].Key },
		func(p *saga.Parts) { p.Out[0], p.Out[1] = p.Out[1], p.Out[0] },
		func(p *saga.Parts) { p.Out[3].Key = 11 },
		func(p *saga.Parts) { p.Out[2].Kind = 0 },
		func(p *saga.Parts) { p.Out[2].Kind = 5 },
		func(p *saga.Parts) { p.Out[2].Tries = 0 },
		func(p *saga.Parts) { p.Out[3].RMA = 0 },
		func(p *saga.Parts) { p.Out[3].RMA = 8 },
		func(p *saga.Parts) { p.Out[0].RMA = -1 },
		func(p *saga.Parts) { p.Out[1].RMA = greatest },
		func(p *saga.Parts) { p.Out[3].Kind = 1 },
		func(p *saga.Parts) { p.Now = -1 },
		func(p *saga.Parts) { p.Now = 100001 },
		func(p *saga.Parts) { p.Now = greatest },
		func(p *saga.Parts) { p.Now = smallest },
	} {
		mustNotMake(t, changed(t, change))
	}
	mustNotMake(t, saga.Parts{})
	mustMake(t, saga.Parts{Next: 1})
}

// A config that isn't right has no units: so it is refused with no places, too.
func TestWrongConfigsOfNoPlaces(t *testing.T) {
	for _, c := range []api.Config{
		{Table: []api.Policy{{Window: -1}}}, {Table: make([]api.Policy, 17)}, {Orders: make([]api.Order, 1)},
		{Supplies: []api.Supply{{SKU: 0, Count: 1}}}, {Supplies: []api.Supply{{SKU: 1, Count: 0}}}, {Supplies: make([]api.Supply, 21)},
	} {
		mustNotMake(t, saga.Parts{Config: c, Next: 1})
	}
	mustMake(t, saga.Parts{Config: api.Config{Table: make([]api.Policy, 16)}, Next: 1})
}

// A Label waits only for an open return.
func TestLabelsOfEachState(t *testing.T) {
	for state := rma.Open; state <= rma.Cancelled; state++ {
		p := create(t, sample())
		p.toState(t, state)
		parts := p.s.Parts()
		for kind := 1; kind <= 4; kind++ {
			parts.Out = []outbox.Message{{Key: 1, Kind: kind, RMA: 1, Tries: 1}}
			if kind > 1 || state == rma.Open {
				mustMake(t, parts)
			} else {
				mustNotMake(t, parts)
			}
		}
	}
}

func TestEachAccount(t *testing.T) {
	for k := range 5 {
		for _, sum := range []int64{richest + 1, -richest - 1, greatest, smallest} {
			mustNotMake(t, changed(t, func(p *saga.Parts) { p.Ledger.Have[k] = sum }))
		}
		for _, sum := range []int64{richest, -richest, 0} {
			mustMake(t, changed(t, func(p *saga.Parts) { p.Ledger.Have[k] = sum }))
		}
	}
}

// Each unit may be at each place, and seen as it may be; a stock tells so, too,
// but of what was received, isn't graded, and isn't at the dock.
func TestEachPlace(t *testing.T) {
	for unit := range 12 {
		for _, place := range []int{-1, 9, 10, 256, 1 << 32, -1 << 32, greatest, smallest} {
			mustNotMake(t, changed(t, func(p *saga.Parts) { p.Places[unit] = place }))
		}
	}
	for place := range 9 {
		for _, seen := range [][2]bool{{false, false}, {true, false}, {true, true}, {false, true}} {
			p := changed(t, func(p *saga.Parts) { p.Places[8], p.Seen[8] = place, seen })
			if seen[1] && !seen[0] {
				mustNotMake(t, p)
				continue
			}
			s := mustMake(t, p)
			l := s.Stock()
			received, graded := l.Seen(8)
			if l.Place(8) != place || graded != seen[1] || received != seen[0] && (graded || place == 2) || received && !seen[0] {
				t.Error(place, seen, l.Place(8), received, graded)
			}
			mustBeAlike(t, "a clone", s.Clone().Parts(), p)
			mustMake(t, s.Parts())
		}
	}
}

// What was received once stays so.
func TestReceivedBefore(t *testing.T) {
	p := changed(t, func(p *saga.Parts) { p.Seen[1], p.Seen[2] = [2]bool{true, false}, [2]bool{true, false} })
	s := mustMake(t, p)
	for _, c := range []struct {
		kind, unit int
		want       [2]bool
	}{{4, 1, [2]bool{true, false}}, {5, 1, [2]bool{true, false}}, {6, 1, [2]bool{true, true}}} {
		one := cancel(2)
		if one.Kind = c.kind; c.kind == 6 {
			one.Unit = c.unit
		}
		if _, _, e := s.Take(one); e != api.OK {
			t.Error(one, e)
		}
		if got := s.Parts().Seen; got[1] != c.want || got[2] != [2]bool{true, false} || got[0] != [2]bool{} {
			t.Error(c, got)
		}
	}
	s.Take(tick(100))
	if got := s.Parts(); got.Places[2] != 6 || got.Seen[2] != [2]bool{true, false} {
		t.Error(got)
	}
}

// There may be MaxRMAs returns, and not one more.
func TestManyReturnsAreMade(t *testing.T) {
	p := changed(t, func(p *saga.Parts) {
		for number := len(p.RMAs) + 1; number <= 100; number++ {
			p.RMAs = append(p.RMAs, rma.RMA{Number: number, Reserved: -1, State: 9, Units: []int{number % 12}, Grades: []int{-1}})
		}
		p.Timers = append(p.Timers, timer.Timer{Day: 77, Number: 100})
	})
	s := mustMake(t, p)
	mustRefuse(t, s, ask(0, 7), api.ErrMany)
	for _, number := range []int{100, 101, 102, 1} {
		more := p
		more.RMAs = append(slices.Clone(p.RMAs), p.RMAs[99])
		more.RMAs[100].Number = number
		mustNotMake(t, more)
	}
	p.RMAs = p.RMAs[:99]
	mustNotMake(t, p)
	p.Timers = p.Timers[:3]
	s = mustMake(t, p)
	if v, _, e := s.Take(ask(0, 7)); v != 100 || e != api.OK {
		t.Error(v, e)
	}
}

// The keys go on where they were.
func TestKeysGoOn(t *testing.T) {
	s := mustMake(t, changed(t, func(p *saga.Parts) { p.Next = 1<<32 - 1 }))
	if _, l, e := s.Take(ask(0, 7)); e != api.OK || l[0].Key != 1<<32-1 {
		t.Error(l, e)
	}
	if _, _, e := s.Take(reply(1<<32-1, true)); e != api.OK || s.RMAs()[7].State != rma.Labelled {
		t.Error(e)
	}
}
