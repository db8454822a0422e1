package saga_test

import (
	"reflect"
	"slices"
	"sync"
	"testing"

	"recoup/api"
	"recoup/ledger"
	"recoup/order"
	"recoup/outbox"
	"recoup/rma"
	"recoup/saga"
	"recoup/timer"
)

// room is a list with spare room behind it, full of what the list begins with.
func room[T any](l []T) []T {
	if len(l) == 0 {
		return make([]T, 0, 3)
	}
	return append(slices.Clone(l), l[0], l[0], l[0])[:len(l)]
}

// fill overwrites a list and its spare room.
func fill[T any](l []T, with T) {
	l = l[:cap(l)]
	for k := range l {
		l[k] = with
	}
}

func roomyConfig(c api.Config) api.Config {
	c.Table, c.Orders, c.Supplies = room(c.Table), room(c.Orders), room(c.Supplies)
	for k := range c.Orders {
		c.Orders[k].Lines = room(c.Orders[k].Lines)
	}
	return c
}

func fillConfig(c api.Config) {
	for _, o := range c.Orders {
		fill(o.Lines, api.Line{SKU: 9, Price: 9, Count: 9})
	}
	fill(c.Table, api.Policy{Final: true})
	fill(c.Orders, api.Order{Day: 77})
	fill(c.Supplies, api.Supply{SKU: 8, Price: 8, Count: 8})
}

func fillRMAs(l []rma.RMA) {
	for _, r := range l {
		fill(r.Units, 7)
		fill(r.Grades, 3)
	}
	fill(l, rma.RMA{Number: 9, State: 6})
}

// roomy are the parts with spare room behind each list.
func roomy(p saga.Parts) saga.Parts {
	p.Config = roomyConfig(p.Config)
	p.Places, p.Seen, p.RMAs, p.Timers, p.Out = room(p.Places), room(p.Seen), room(p.RMAs), room(p.Timers), room(p.Out)
	for k := range p.RMAs {
		p.RMAs[k].Units, p.RMAs[k].Grades = room(p.RMAs[k].Units), room(p.RMAs[k].Grades)
	}
	return p
}

func fillParts(p saga.Parts) {
	fillConfig(p.Config)
	fillRMAs(p.RMAs)
	fill(p.Places, 6)
	fill(p.Seen, [2]bool{true, true})
	fill(p.Timers, timer.Timer{Day: 1, Number: 3})
	fill(p.Out, outbox.Message{Key: 4, Kind: 2, RMA: 3})
}

// whole is all of the parts' memory, spare room too, as a copy.
func whole(p saga.Parts) []any {
	l := []any{slices.Clone(p.Places[:cap(p.Places)]), slices.Clone(p.Seen[:cap(p.Seen)]), slices.Clone(p.Timers[:cap(p.Timers)]), slices.Clone(p.Out[:cap(p.Out)])}
	for _, r := range p.RMAs[:cap(p.RMAs)] {
		l = append(l, r, slices.Clone(r.Units[:cap(r.Units)]), slices.Clone(r.Grades[:cap(r.Grades)]))
	}
	return append(l, wholeConfig(p.Config)...)
}

func wholeConfig(c api.Config) []any {
	l := []any{slices.Clone(c.Table[:cap(c.Table)]), slices.Clone(c.Supplies[:cap(c.Supplies)])}
	for _, o := range c.Orders[:cap(c.Orders)] {
		l = append(l, o.Day, o.Tax, slices.Clone(o.Lines[:cap(o.Lines)]))
	}
	return l
}

// use takes all commands that there are, and overwrites what is told.
func use(s *saga.Saga) {
	for range 2 {
		for _, c := range someCommands() {
			_, l, _ := s.Take(c)
			fill(l, outbox.Message{Key: 1, Kind: 3})
		}
		overwrite(s)
	}
}

// overwrite overwrites all that a saga tells.
func overwrite(s *saga.Saga) {
	fillConfig(s.Config())
	fillRMAs(s.RMAs())
	fillParts(s.Parts())
	fill(s.Units(), order.Unit{Order: 5})
	l := s.Stock()
	for unit := range l.Len() {
		for place := range 9 {
			l.Move(unit, place)
		}
	}
	o := s.Outbox()
	o.Put(2, 1, 5, 0)
	o.Again(1000)
	o.Heard(1)
	ts := s.Timers()
	ts.Set(1, 4)
	ts.Due(20)
	have := s.Ledger()
	have, _ = ledger.Post(have, 0, 1, 1)
	_ = have
}

func TestConfigsAreLeftAsTheyAre(t *testing.T) {
	for _, c := range []api.Config{sample(), busyConfig(), {}} {
		c := roomyConfig(c)
		before := wholeConfig(c)
		s, e := saga.New(c)
		if e != api.OK {
			t.Fatal(e)
		}
		use(s)
		if after := wholeConfig(c); !reflect.DeepEqual(after, before) {
			t.Error("is now", after)
		}
	}
}

func TestConfigsMayBeChangedAfterwards(t *testing.T) {
	c := roomyConfig(sample())
	s, _ := saga.New(c)
	p := pair{s, begin(c)}
	fillConfig(c)
	p.check(t)
	p.settled(t, wanting(ask(0, 0), 1), 0)
	fillConfig(c)
	p.check(t)
}

func TestPartsAreLeftAsTheyAre(t *testing.T) {
	p := roomy(busy(t).s.Parts())
	before := whole(p)
	use(mustMake(t, p))
	if after := whole(p); !reflect.DeepEqual(after, before) {
		t.Error("are now", after)
	}
	p.Now = -1
	mustNotMake(t, p)
	if after := whole(p); !reflect.DeepEqual(after, before) {
		t.Error("are now", after)
	}
}

func TestPartsMayBeChangedAfterwards(t *testing.T) {
	first := busy(t)
	for _, c := range someCommands() {
		p := roomy(first.s.Parts())
		one := pair{mustMake(t, p), first.copy()}
		fillParts(p)
		one.check(t)
		one.do(t, c)
		one.check(t)
	}
}

func TestCommandsAreLeftAsTheyAre(t *testing.T) {
	p := create(t, sample())
	for _, l := range [][]int{{0, 1}, {3}, {1, 0}, {0, 4}} {
		c := ask(0, room(l)...)
		before := slices.Clone(c.Units[:cap(c.Units)])
		p.do(t, c)
		if after := c.Units[:cap(c.Units)]; !slices.Equal(after, before) {
			t.Error("are now", after)
		}
		fill(c.Units, 2)
		p.check(t)
	}
	if len(p.l) != 2 {
		t.Error(p.l)
	}
	p.take(t, ask(0, 0), api.ErrTaken)
	p.take(t, ask(0, 2), api.OK)
}

func TestAnswersMayBeChangedAfterwards(t *testing.T) {
	p := busy(t)
	for _, c := range someCommands() {
		_, said, _ := p.do(t, c)
		fill(said, outbox.Message{Key: 1, Kind: 4, RMA: 2})
		overwrite(p.s)
		p.check(t)
	}
}

// What is said is no part of what is kept.
func TestWhatIsSaidMayBeChangedAfterwards(t *testing.T) {
	p := create(t, sample())
	p.docked(t, wanting(ask(0, 0, 1), 1))
	for _, unit := range []int{0, 1} {
		v, said, e := p.s.Take(grade(1, unit, 3*unit))
		p.due.take(grade(1, unit, 3*unit))
		fill(said, outbox.Message{Key: 99, Kind: 1})
		if v != 0 || e != api.OK {
			t.Error(v, e)
		}
		p.check(t)
	}
	for range 5 {
		_, said, _ := p.s.Take(tick(2))
		p.due.take(tick(2))
		fill(said, outbox.Message{Key: 99, Kind: 1})
		p.check(t)
	}
}

// What was answered is as it was, whatever is taken afterwards.
func TestAnswersStay(t *testing.T) {
	p := busy(t)
	want, copies := p.parts(), p.s.Parts()
	config, units, l, have, rmas, o, ts := p.s.Config(), p.s.Units(), p.s.Stock(), p.s.Ledger(), p.s.RMAs(), p.s.Outbox(), p.s.Timers()
	use(p.s)
	mustBeAlike(t, "Parts", copies, want)
	got := saga.Parts{Config: config, Seen: copies.Seen, Ledger: have, RMAs: rmas, Timers: ts.All(), Next: o.NextKey(), Out: o.All(), Now: copies.Now}
	for unit := range units {
		got.Places = append(got.Places, l.Place(unit))
	}
	mustBeAlike(t, "all", got, want)
}

// No two lists of one answer have anything in common, not even spare room.
func TestListsOfOneAnswerHaveNothingInCommon(t *testing.T) {
	p := busy(t)
	want := p.parts()
	for k := range want.RMAs {
		l := p.s.RMAs()
		_, _ = append(l[k].Units, 99), append(l[k].Grades, 99)
		fill(l[k].Units, 8)
		l[k].Units = want.RMAs[k].Units
		got := want
		got.RMAs = l
		mustBeAlike(t, "RMAs", got, want)
		parts := p.s.Parts()
		fill(parts.RMAs[k].Grades, 2)
		parts.RMAs[k].Grades = want.RMAs[k].Grades
		mustBeAlike(t, "Parts", parts, want)
	}
	for k := range want.Config.Orders {
		parts := p.s.Parts()
		fill(parts.Config.Orders[k].Lines, api.Line{})
		parts.Config.Orders[k].Lines = want.Config.Orders[k].Lines
		mustBeAlike(t, "Config", parts, want)
	}
}

func TestACloneHasNothingInCommon(t *testing.T) {
	p := busy(t)
	first, second := p.clone(), p.clone()
	if p.s.Clone() == p.s {
		t.Error("a clone is what it was cloned from")
	}
	use(second.s)
	p.check(t)
	first.check(t)
	use(p.s)
	first.check(t)
	third := first.clone()
	for _, c := range someCommands() {
		first.do(t, c)
		third.check(t)
	}
	first.check(t)
	for _, c := range someCommands() {
		third.do(t, c)
		first.check(t)
	}
	third.check(t)
}

// Two that were made of the same parts have nothing in common, either.
func TestTwoHaveNothingInCommon(t *testing.T) {
	p := busy(t)
	parts := p.s.Parts()
	a, b := pair{mustMake(t, parts), p.copy()}, pair{mustMake(t, parts), p.copy()}
	use(a.s)
	b.check(t)
	use(b.s)
	p.check(t)
	mustBeAlike(t, "the parts", parts, p.parts())
}

// What is told leaves a saga as it is.
func TestTellingLeavesASagaAsItIs(t *testing.T) {
	p := busy(t)
	for range 3 {
		p.check(t)
		overwrite(p.s)
		p.s.Clone()
		p.made(t)
	}
	p.check(t)
}

// Nothing is kept from call to call, but in the saga itself; it doesn't matter who
// else asks, nor who goes on from the same.
func TestAnswersHangOnTheSagaAlone(t *testing.T) {
	var all sync.WaitGroup
	shared := busy(t)
	for k := range 4 {
		own := shared.clone()
		all.Go(func() {
			for round, c := range someCommands() {
				if round%5 == k {
					continue
				}
				own.do(t, c)
				if round%10 == 0 {
					shared.check(t)
					own.check(t)
				}
			}
		})
	}
	all.Wait()
	shared.check(t)
}
