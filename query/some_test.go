package query_test

import (
	"math"
	"testing"

	"recoup/api"
	"recoup/command"
	"recoup/outbox"
	"recoup/rma"
	"recoup/saga"
)

const (
	greatest = math.MaxInt
	smallest = math.MinInt
	richest  = 1 << 50
)

// The categories of sample.
const (
	books = iota
	food
	gifts
	coupons
)

// grades are: all of it, and to the shelf; half, to refurbish; nothing, to
// scrap; nothing, and back.
func grades() [4]api.Grade {
	return [4]api.Grade{{Share: 10000, To: 3}, {Share: 5000, To: 4}, {Share: 0, To: 5}, {}}
}

// sample is a config with these units: 0 to 7 of order 0 are books of the SKU 1,
// with shares of 990. Of order 1, delivered on day 5, 8 is food of the SKU 3, with
// a share of 700; 9 a gift of the SKU 4 with 300; 10 a coupon of the SKU 5 with
// 805. Of order 2, delivered on day 40: 11 is a book of the SKU 6 with 7. For sale
// are 12 and 13 of the SKU 2 at 900, and 14 of the SKU 1 at 1.
func sample() api.Config {
	return api.Config{
		Table: []api.Policy{
			{Window: 30, Fee: [4]int{0, 1000, 0, 10000}, Grades: grades()},
			{Window: 1000, Final: true, Grades: grades()},
			{Window: 10, Exchange: true, Grades: grades()},
			{Window: 0, Credit: true, Grades: grades()},
		},
		Orders: []api.Order{
			{Day: 0, Discount: 160, Tax: 80, Lines: []api.Line{{SKU: 1, Category: books, Price: 1000, Count: 8}}},
			{Day: 5, Lines: []api.Line{{SKU: 3, Category: food, Price: 700, Count: 1}, {SKU: 4, Category: gifts, Price: 300, Count: 1}, {SKU: 5, Category: coupons, Price: 805, Count: 1}}},
			{Day: 40, Lines: []api.Line{{SKU: 6, Category: books, Price: 7, Count: 1}}},
		},
		Supplies: []api.Supply{{SKU: 2, Price: 900, Count: 2}, {SKU: 1, Price: 1, Count: 1}},
	}
}

func ask(order int, units ...int) command.Command {
	return command.Command{Kind: command.Request, Order: order, Units: units}
}

// wanting is the same for something else.
func wanting(c command.Command, sku int) command.Command {
	c.Want = sku
	return c
}

func because(c command.Command, reason int) command.Command {
	c.Reason = reason
	return c
}

func byCredit(c command.Command) command.Command {
	c.Credit = true
	return c
}

// of is a command that needs a return's number alone.
func of(kind, number int) command.Command { return command.Command{Kind: kind, RMA: number} }

func grade(number, unit, grade int) command.Command {
	return command.Command{Kind: command.Grade, RMA: number, Unit: unit, Grade: grade}
}

func tick(days int) command.Command { return command.Command{Kind: command.Tick, Days: days} }

func reply(key int, yes bool) command.Command {
	return command.Command{Kind: command.Reply, Key: key, Yes: yes}
}

// create is a new saga.
func create(t *testing.T, c api.Config) *saga.Saga {
	t.Helper()
	s, e := saga.New(c)
	if e != api.OK {
		t.Fatal(c, e)
	}
	return s
}

// take takes commands, each of which is answered OK, and tells what is said of
// the last one.
func take(t *testing.T, s *saga.Saga, l ...command.Command) (said []outbox.Message) {
	t.Helper()
	for _, c := range l {
		var e api.Errno
		if _, said, e = s.Take(c); e != api.OK {
			t.Fatal(c, e)
		}
	}
	return said
}

// dock makes a return that was received, and tells its number.
func dock(t *testing.T, s *saga.Saga, c command.Command) int {
	t.Helper()
	m := take(t, s, c)[0]
	take(t, s, reply(m.Key, true), of(command.Pick, m.RMA), of(command.Receive, m.RMA))
	return m.RMA
}

// busy is a saga on day 5, with returns in all states: 1 is open, and has the unit
// 12 reserved; 2 labelled; 3 moving; 4 docked, with one of two units graded, and
// sent back; 5 settling, with a Ship of the unit 13, and a Pay; 6 closed; 7 denied;
// 8 expired; 9 cancelled.
func busy(t *testing.T) *saga.Saga {
	t.Helper()
	s := create(t, sample())
	take(t, s, tick(2))
	take(t, s, wanting(ask(0, 0), 2))
	m := take(t, s, ask(0, 1))[0]
	take(t, s, reply(m.Key, true))
	m = take(t, s, ask(0, 2))[0]
	take(t, s, reply(m.Key, true), of(command.Pick, m.RMA))
	dock(t, s, ask(0, 3, 4))
	take(t, s, grade(4, 4, 3))
	take(t, s, grade(dock(t, s, wanting(ask(0, 5), 2)), 5, 0))
	take(t, s, grade(dock(t, s, byCredit(ask(0, 6))), 6, 1))
	take(t, s, ask(0, 7), of(command.Deny, 7))
	m = take(t, s, ask(0, 7))[0]
	take(t, s, reply(m.Key, false), ask(0, 7), of(command.Cancel, 9), tick(3))
	for k, r := range s.RMAs() {
		if r.State != k+1 {
			t.Fatalf("%+v", r)
		}
	}
	return s
}

// makeOf is the saga of these parts.
func makeOf(t *testing.T, p saga.Parts) *saga.Saga {
	t.Helper()
	s, e := saga.Make(p)
	if e != api.OK {
		t.Fatalf("Make(%+v): %d", p, e)
	}
	return s
}

// changed is a saga of busy's parts, with a change.
func changed(t *testing.T, change func(p *saga.Parts)) *saga.Saga {
	t.Helper()
	p := busy(t).Parts()
	change(&p)
	return makeOf(t, p)
}

// with is a saga of one return of the units 0 and 1, which is so.
func with(t *testing.T, state int, worth, paid, credited, given int64) *saga.Saga {
	t.Helper()
	p := create(t, sample()).Parts()
	p.RMAs = []rma.RMA{{Number: 1, Reserved: -1, State: state, Units: []int{0, 1}, Grades: []int{0, 0}, Worth: worth, Paid: paid, Credited: credited, Given: given}}
	return makeOf(t, p)
}

// many is a saga of 100 returns, of one unit each, which are cancelled, but every
// tenth: of these 10 to 50 are denied, 60 to 100 open.
func many(t *testing.T) *saga.Saga {
	t.Helper()
	c := sample()
	c.Orders[0].Lines[0].Count = 50
	s := create(t, c)
	for number := 1; number <= 100; number++ {
		take(t, s, ask(0, number%50))
		if number%10 > 0 {
			take(t, s, of(command.Cancel, number))
		}
		if number == 50 {
			for k := range 5 {
				take(t, s, of(command.Deny, 10+10*k))
			}
		}
	}
	return s
}

// someSagas are sagas of all kinds.
func someSagas(t *testing.T) []*saga.Saga {
	t.Helper()
	l := []*saga.Saga{busy(t), many(t), create(t, sample()), create(t, api.Config{}), create(t, api.Config{Table: []api.Policy{{}}})}
	for _, days := range []int{5, 6, 15, 16, 30, 31, 40, 41, 70, 71, 1000} {
		s := create(t, sample())
		take(t, s, tick(days))
		l = append(l, s)
	}
	lost := busy(t)
	take(t, lost, tick(30))
	return append(l, lost)
}

// someNumbers are numbers of returns and units, and others that are none.
func someNumbers() []int {
	l := []int{smallest, smallest + 1, -1 << 32, 1 - 1<<32, -256, -3, -2, 255, 256, 257, 65536, 65537, 1 << 32, 1<<32 + 1, greatest - 1, greatest}
	for k := -1; k < 203; k++ {
		l = append(l, k)
	}
	return l
}
