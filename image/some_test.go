package image_test

import (
	"math"
	"testing"

	"recoup/api"
	"recoup/command"
	"recoup/outbox"
	"recoup/rma"
	"recoup/saga"
)

const (
	greatest = math.MaxInt
	smallest = math.MinInt
	richest  = 1 << 50
)

// policy has the grades: all of it, and to the shelf; half, to refurbish; nothing,
// to scrap; nothing, and back.
func policy() api.Policy {
	return api.Policy{Window: 30, Fee: [4]int{0, 1000, 0, 10000}, Grades: [4]api.Grade{{Share: 10000, To: 3}, {Share: 5000, To: 4}, {Share: 0, To: 5}, {}}}
}

// sample has the units 0 to 7 of order 0, at 1000; 8 of order 1, at 7; and for
// sale 9 to 11, at 900.
func sample() api.Config {
	return api.Config{
		Table: []api.Policy{policy(), {Window: 1000, Final: true}},
		Orders: []api.Order{
			{Lines: []api.Line{{SKU: 1, Price: 1000, Count: 8}}},
			{Day: 1, Lines: []api.Line{{SKU: 3, Price: 7, Count: 1}}},
		},
		Supplies: []api.Supply{{SKU: 2, Price: 900, Count: 3}},
	}
}

// small has two units of an order, and one for sale.
func small() api.Config {
	return api.Config{
		Table:    []api.Policy{policy()},
		Orders:   []api.Order{{Lines: []api.Line{{SKU: 1, Price: 1000, Count: 2}}}},
		Supplies: []api.Supply{{SKU: 2, Price: 900, Count: 1}},
	}
}

// fullest has as much of all as a config may have, but for its units.
func fullest() api.Config {
	var c api.Config
	for range 16 {
		c.Table = append(c.Table, policy())
	}
	for k := range 20 {
		o := api.Order{Day: 100000 - k, Discount: 1, Tax: 1 << 30, Shipping: 1 << 30}
		for n := range 8 {
			o.Lines = append(o.Lines, api.Line{SKU: 1000 - n, Category: 15 - n, Price: 1 << 30, Count: 1})
		}
		c.Orders = append(c.Orders, o)
		c.Supplies = append(c.Supplies, api.Supply{SKU: 1 + k, Price: 1 << 30, Count: 2})
	}
	return c
}

func someConfigs() []api.Config {
	return []api.Config{
		{}, sample(), small(), fullest(), {Table: []api.Policy{{}}},
		{Supplies: []api.Supply{{SKU: 1, Count: 50}, {SKU: 2, Price: 5, Count: 50}, {SKU: 3, Count: 50}, {SKU: 4, Count: 50}}},
		{Table: []api.Policy{{}}, Orders: []api.Order{{Lines: []api.Line{{SKU: 1, Count: 1}}}}},
	}
}

func ask(order int, units ...int) command.Command {
	return command.Command{Kind: command.Request, Order: order, Units: units}
}

// wanting is the same for something else.
func wanting(c command.Command, sku int) command.Command {
	c.Want = sku
	return c
}

func byCredit(c command.Command) command.Command {
	c.Credit = true
	return c
}

// of is a command that needs a return's number alone.
func of(kind, number int) command.Command { return command.Command{Kind: kind, RMA: number} }

func grade(number, unit, grade int) command.Command {
	return command.Command{Kind: command.Grade, RMA: number, Unit: unit, Grade: grade}
}

func tick(days int) command.Command { return command.Command{Kind: command.Tick, Days: days} }

func reply(key int, yes bool) command.Command {
	return command.Command{Kind: command.Reply, Key: key, Yes: yes}
}

// create is a new saga.
func create(t *testing.T, c api.Config) *saga.Saga {
	t.Helper()
	s, e := saga.New(c)
	if e != api.OK {
		t.Fatal(c, e)
	}
	return s
}

// take takes commands, each of which is answered OK, and tells what is said of
// the last one.
func take(t *testing.T, s *saga.Saga, l ...command.Command) (said []outbox.Message) {
	t.Helper()
	for _, c := range l {
		var e api.Errno
		if _, said, e = s.Take(c); e != api.OK {
			t.Fatal(c, e)
		}
	}
	return said
}

// dock makes a return that was received, and tells its number.
func dock(t *testing.T, s *saga.Saga, c command.Command) int {
	t.Helper()
	m := take(t, s, c)[0]
	take(t, s, reply(m.Key, true), of(command.Pick, m.RMA), of(command.Receive, m.RMA))
	return m.RMA
}

// busy is a saga on day 5, with returns in all states: 1 is open, and has the unit
// 9 reserved; 2 labelled; 3 moving; 4 docked, with one of two units graded, and
// sent back; 5 settling, with a Ship of the unit 10, and a Pay; 6 closed; 7 denied;
// 8 expired; 9 cancelled.
func busy(t *testing.T) *saga.Saga {
	t.Helper()
	s := create(t, sample())
	take(t, s, tick(2))
	take(t, s, wanting(ask(0, 0), 2))
	m := take(t, s, ask(0, 1))[0]
	take(t, s, reply(m.Key, true))
	m = take(t, s, ask(0, 2))[0]
	take(t, s, reply(m.Key, true), of(command.Pick, m.RMA))
	dock(t, s, ask(0, 3, 4))
	take(t, s, grade(4, 4, 3))
	take(t, s, grade(dock(t, s, wanting(ask(0, 5), 2)), 5, 0))
	take(t, s, grade(dock(t, s, byCredit(ask(0, 6))), 6, 1))
	take(t, s, ask(0, 7), of(command.Deny, 7))
	m = take(t, s, ask(0, 7))[0]
	take(t, s, reply(m.Key, false), ask(1, 8), of(command.Cancel, 9), tick(3))
	for k, r := range s.RMAs() {
		if r.State != k+1 {
			t.Fatalf("%+v", r)
		}
	}
	return s
}

// inState is a saga of small's with one return in a state.
func inState(t *testing.T, state int) *saga.Saga {
	t.Helper()
	s := create(t, small())
	take(t, s, wanting(ask(0, 0, 1), 2))
	by := map[int]command.Command{rma.Denied: of(command.Deny, 1), rma.Expired: tick(14), rma.Cancelled: of(command.Cancel, 1)}
	if c, ok := by[state]; ok {
		take(t, s, c)
		return s
	}
	steps := [][]command.Command{{}, {reply(1, true)}, {of(command.Pick, 1)}, {of(command.Receive, 1)}, {grade(1, 0, 0), grade(1, 1, 3)}, {reply(2, true), reply(3, true), reply(4, false)}}
	for _, l := range steps[:state] {
		take(t, s, l...)
	}
	return s
}

// makeOf is the saga of these parts.
func makeOf(t *testing.T, p saga.Parts) *saga.Saga {
	t.Helper()
	s, e := saga.Make(p)
	if e != api.OK {
		t.Fatalf("Make(%+v): %d", p, e)
	}
	return s
}

// changed is a saga of busy's parts, with a change.
func changed(t *testing.T, change func(p *saga.Parts)) *saga.Saga {
	t.Helper()
	p := busy(t).Parts()
	change(&p)
	return makeOf(t, p)
}

// many is a saga of 100 returns, of 60 units each, with three messages each.
func many(t *testing.T) *saga.Saga {
	t.Helper()
	p := create(t, fullest()).Parts()
	for number := 1; number <= 100; number++ {
		r := rma.RMA{Number: number, Order: number % 20, Reason: number % 4, Want: 1000, Reserved: 199, State: 1 + number%9, Day: 100000, Worth: richest, Paid: richest - 1, Credited: 5, Given: int64(number)}
		for unit := range 60 {
			r.Units, r.Grades = append(r.Units, 2*unit+80), append(r.Grades, unit%6-1)
		}
		p.RMAs = append(p.RMAs, r)
		for k := range 3 {
			p.Out = append(p.Out, outbox.Message{Key: p.Next, Kind: 2 + k, RMA: number, Value: int64(number - k), Tries: number, Due: number * k})
			p.Next += 1 + k
		}
	}
	return makeOf(t, p)
}

// someSagas are sagas of all kinds, no two of which have the same parts.
func someSagas(t *testing.T) []*saga.Saga {
	t.Helper()
	l := []*saga.Saga{busy(t), many(t)}
	for _, c := range someConfigs() {
		l = append(l, create(t, c))
	}
	for state := rma.Open; state <= rma.Cancelled; state++ {
		l = append(l, inState(t, state))
	}
	lost := inState(t, rma.Moving)
	take(t, lost, tick(29), tick(1))
	late := create(t, small())
	take(t, late, tick(1000))
	return append(l, lost, late)
}

// someCommands are commands of all kinds, of small numbers.
func someCommands() []command.Command {
	l := []command.Command{{}, tick(0), tick(1), tick(2), tick(9), tick(14), tick(30), tick(1000), tick(1001), ask(0, 7, 8), ask(5, 7), ask(0), byCredit(ask(0, 7)), wanting(ask(0, 7), 2), wanting(ask(0, 7), 5)}
	for n := range 16 {
		for kind := command.Cancel; kind <= command.Receive; kind++ {
			l = append(l, of(kind, n))
		}
		l = append(l, reply(n, true), reply(n, false), ask(0, n), ask(1, n), grade(4, 3, n))
	}
	return l
}
