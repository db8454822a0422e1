package saga_test

import (
	"math"
	"slices"
	"testing"

	"recoup/api"
	"recoup/command"
	"recoup/outbox"
	"recoup/rma"
)

const (
	greatest = math.MaxInt
	smallest = math.MinInt
	richest  = 1 << 50
)

// The categories of sample.
const (
	books = iota
	food
	gifts
	coupons
)

// grades are: all of it, and to the shelf; half, to refurbish; nothing, to
// scrap; nothing, and back.
func grades() [4]api.Grade {
	return [4]api.Grade{{Share: 10000, To: 3}, {Share: 5000, To: 4}, {Share: 0, To: 5}, {}}
}

// sample is a config with these units: 0 to 2 are books of the SKU 1, with shares
// of 988, 988 and 987; 3 and 4 books of the SKU 2, with 493 and 494; all of order
// 0. Of order 1, delivered on day 5: 5 is food, 6 a gift with 300, 7 and 8 are
// coupons with 800. Of order 2, delivered on day 40: 9 is a book of the SKU 1
// with 0. For sale are: 10 and 11 of the SKU 1 at 900, 12 of the SKU 6 at 0, 13
// of the SKU 7 at 5000.
func sample() api.Config {
	return api.Config{
		Table: []api.Policy{
			{Window: 30, Fee: [4]int{0, 1000, 0, 10000}, Grades: grades()},
			{Window: 1000, Final: true, Grades: grades()},
			{Window: 10, Exchange: true, Grades: grades()},
			{Window: 20, Credit: true, Grades: grades()},
		},
		Orders: []api.Order{
			{Day: 0, Discount: 100, Tax: 50, Lines: []api.Line{{SKU: 1, Category: books, Price: 1000, Count: 3}, {SKU: 2, Category: books, Price: 500, Count: 2}}},
			{Day: 5, Lines: []api.Line{{SKU: 3, Category: food, Price: 700, Count: 1}, {SKU: 4, Category: gifts, Price: 300, Count: 1}, {SKU: 5, Category: coupons, Price: 800, Count: 2}}},
			{Day: 40, Lines: []api.Line{{SKU: 1, Category: books, Price: 0, Count: 1}}},
		},
		Supplies: []api.Supply{{SKU: 1, Price: 900, Count: 2}, {SKU: 6, Price: 0, Count: 1}, {SKU: 7, Price: 5000, Count: 1}},
	}
}

func ask(order int, units ...int) command.Command {
	return command.Command{Kind: command.Request, Order: order, Units: units}
}

// wanting is the same for something else.
func wanting(c command.Command, sku int) command.Command {
	c.Want = sku
	return c
}

func because(c command.Command, reason int) command.Command {
	c.Reason = reason
	return c
}

func byCredit(c command.Command) command.Command {
	c.Credit = true
	return c
}

func cancel(number int) command.Command { return command.Command{Kind: command.Cancel, RMA: number} }

func deny(number int) command.Command { return command.Command{Kind: command.Deny, RMA: number} }

func pick(number int) command.Command { return command.Command{Kind: command.Pick, RMA: number} }

func receive(number int) command.Command { return command.Command{Kind: command.Receive, RMA: number} }

func grade(number, unit, grade int) command.Command {
	return command.Command{Kind: command.Grade, RMA: number, Unit: unit, Grade: grade}
}

func tick(days int) command.Command { return command.Command{Kind: command.Tick, Days: days} }

func reply(key int, yes bool) command.Command {
	return command.Command{Kind: command.Reply, Key: key, Yes: yes}
}

// labelled is a return that was asked for, and has its label; it tells its number.
func (p pair) labelled(t *testing.T, c command.Command) int {
	t.Helper()
	said := p.take(t, c, api.OK)
	p.take(t, reply(said[0].Key, true), api.OK)
	return said[0].RMA
}

// moving is a return that is on its way.
func (p pair) moving(t *testing.T, c command.Command) int {
	t.Helper()
	number := p.labelled(t, c)
	p.take(t, pick(number), api.OK)
	return number
}

// docked is a return that was received.
func (p pair) docked(t *testing.T, c command.Command) int {
	t.Helper()
	number := p.moving(t, c)
	p.take(t, receive(number), api.OK)
	return number
}

// settled is a return all of whose units have a grade; it tells what is said of
// the last one.
func (p pair) settled(t *testing.T, c command.Command, graded int) (number int, said []outbox.Message) {
	t.Helper()
	number = p.docked(t, c)
	for _, unit := range c.Units {
		said = p.take(t, grade(number, unit, graded), api.OK)
	}
	return number, said
}

// one is the return of a number.
func (p pair) one(number int) rma.RMA { return p.s.RMAs()[number-1] }

// mustSay checks what is said, but the keys: of each the kind, the return, the
// value, the tries and the day.
func mustSay(t *testing.T, got []outbox.Message, want ...[5]int) {
	t.Helper()
	var l [][5]int
	for _, m := range got {
		l = append(l, [5]int{m.Kind, m.RMA, int(m.Value), m.Tries, m.Due})
	}
	if !slices.Equal(l, want) {
		t.Errorf("said: %v; want %v", l, want)
	}
}

// mustBeAt checks where units are: a unit, its place, the next unit, its place.
func (p pair) mustBeAt(t *testing.T, l ...int) {
	t.Helper()
	s := p.s.Stock()
	for at := range slices.Chunk(l, 2) {
		if s.Place(at[0]) != at[1] {
			t.Errorf("%d is at %d; want %d", at[0], s.Place(at[0]), at[1])
		}
	}
}

// mustBe checks a return's state, and its sums: worth, paid, credited, given.
func (p pair) mustBe(t *testing.T, number, state int, sums ...int64) {
	t.Helper()
	r := p.one(number)
	if r.State != state || len(sums) > 0 && !slices.Equal(sums, []int64{r.Worth, r.Paid, r.Credited, r.Given}) {
		t.Errorf("%+v; want state %d, %v", r, state, sums)
	}
}

// mustHaveSums checks what the accounts have.
func (p pair) mustHaveSums(t *testing.T, want ...int64) {
	t.Helper()
	if l := p.s.Ledger(); !slices.Equal(l.Have[:], want) {
		t.Errorf("%v; want %v", l.Have, want)
	}
}

// mustBeDue checks the timers: a day, a number, the next day, its number.
func (p pair) mustBeDue(t *testing.T, l ...int) {
	t.Helper()
	var got []int
	for _, one := range p.s.Timers().All() {
		got = append(got, one.Day, one.Number)
	}
	if !slices.Equal(got, l) {
		t.Errorf("timers: %v; want %v", got, l)
	}
}

// notFormed are no commands, though some would be if a number lost its upper half.
func notFormed() []command.Command {
	long := ask(0, make([]int, 61)...)
	for k := range long.Units {
		long.Units[k] = k
	}
	l := []command.Command{{}, {Kind: 9}, {Kind: -1}, {Kind: 256 + command.Tick, Days: 1}, {Kind: greatest}, {Kind: smallest}, {Kind: 1<<32 + command.Tick, Days: 1}}
	l = append(l, ask(0), long, ask(-1, 0), ask(256, 0), ask(1<<32, 0), ask(0, -1), ask(0, 256), ask(0, 0, 1<<32+1), because(ask(0, 0), -1), because(ask(0, 0), 256), wanting(ask(0, 0), -1), wanting(ask(0, 0), 65536))
	for _, n := range []int{-1, 65536, 65537, 1<<32 + 1, greatest, smallest} {
		l = append(l, cancel(n), deny(n), pick(n), receive(n), grade(n, 0, 0), tick(n))
	}
	l = append(l, grade(1, -1, 0), grade(1, 256, 0), grade(1, 0, -1), grade(1, 0, 256), reply(-1, true), reply(1<<32, true), reply(1<<32+1, false))
	more := []func(c *command.Command){
		func(c *command.Command) { c.Order++ }, func(c *command.Command) { c.Units = append(c.Units, 99) }, func(c *command.Command) { c.Reason++ }, func(c *command.Command) { c.Want++ }, func(c *command.Command) { c.Credit = true },
		func(c *command.Command) { c.RMA++ }, func(c *command.Command) { c.Unit++ }, func(c *command.Command) { c.Grade++ }, func(c *command.Command) { c.Days++ }, func(c *command.Command) { c.Key++ }, func(c *command.Command) { c.Yes = true },
	}
	needs := map[int][]int{command.Request: {0, 1, 2, 3, 4}, command.Grade: {5, 6, 7}, command.Tick: {8}, command.Reply: {9, 10}}
	for _, c := range []command.Command{ask(0, 1), cancel(1), deny(1), pick(1), receive(1), grade(1, 0, 0), tick(1), reply(1, true)} {
		for k, change := range more {
			if own, ok := needs[c.Kind]; ok && slices.Contains(own, k) || !ok && k == 5 {
				continue
			}
			wrong := c
			change(&wrong)
			l = append(l, wrong)
		}
	}
	return l
}

// someCommands are commands of all kinds, of small numbers.
func someCommands() []command.Command {
	l := []command.Command{tick(0), tick(1), tick(2), tick(13), tick(14), tick(30), tick(1000), tick(1001)}
	for n := range 12 {
		l = append(l, cancel(n), deny(n), pick(n), receive(n), grade(n, n, 0), reply(n, true), reply(n, false), ask(0, n), ask(1, n), wanting(ask(0, n), 2), byCredit(ask(0, n)))
		for g := range 5 {
			l = append(l, grade(4, n, g))
		}
	}
	return l
}
